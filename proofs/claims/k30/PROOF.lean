import PyProof.Rows.All
import Wide.All
import OpenK.AllK
import Wide.FinOn
import PyProof.EqAt
import PyProof.EqKinds
import PyProof.TupleCall
import PyProof.ReprRoads
import HandS.ForMost
import HandS.ForExc
import HandS.TupAny
import HandS.Deep
import HandS.IsInst
import HandS.Flow
import HandS.TupMul
import HandS.More
import HandS.Conv
import PyProof.P3In
import HandS.AnyAll
import KE.GoesEnum
import HandS.Zip
import KE.SortData
import HandS.ExcIs
import HandS.ExcOwn
import HandS.GenList
import HandS.Nested
import HandS.Style
import KE.KDictSum
import KE.KUnpackStar
import HandS.Small
import PyProof.ReprLen
import PySem.Challenge.RW_doubtbooks_k30_whole_alike_and_one_more
set_option Elab.async false
set_option linter.all false
set_option maxRecDepth 100000
/-! DxA: values of a small store machine (D), how they lie in the abstract heap. -/
namespace DX
open PySem PySem.Spec PyProof.Rows L2

/-- a value: data is written out; loc n is the n-th object of the store; glob x is what the module's name x holds (a def, a class); ty n a built-in class -/
inductive D where
  | non | bl (b : Bool) | int (i : Int) | str (x : Str)
  | tup (xs : List D) | lst (xs : List D) | edct
  | loc (n : Nat) | glob (x : Str) | ty (n : String)

/-- an object of the store -/
inductive O where
  | lst (xs : List D)
  | dct (kvs : List (Key × D))
  | ins (c : Str) (fs : List (Str × D))
  | rng (lo hi : Int)
abbrev Sto := List O

/-- what an evaluation comes to: a value, an own exception, or nothing that is promised -/
inductive R (α : Type) where
  | ok (a : α) (st : Sto)
  | exc (c : Str) (fs : List (Str × D)) (st : Sto)
  | no

/-! ### how values lie in the abstract heap -/
/-- a list (tuple) that the module holds -/
def KL (K : PySem.W.Frag) (a : Addr) (xs : List V) : Prop := ∃ (o : Obj) (its : Array Value) (n : Nat), K.lookup a = some o ∧ o.cls = .type "list" ∧ o.dict = none ∧ o.data = .seq its n ∧ its.size ≤ sizeLine ∧ Vals xs its.toList
def KT (K : PySem.W.Frag) (a : Addr) (xs : List V) : Prop := ∃ (o : Obj) (its : Array Value) (n : Nat), K.lookup a = some o ∧ o.cls = .type "tuple" ∧ o.data = .seq its n ∧ its.size ≤ sizeLine ∧ Vals xs its.toList

/-- the written part, the module's names; av: addresses that no data may stand at (lists that a comprehension is filling) -/
structure Wd where
  K : PySem.W.Frag
  mg : Str → Option Value
  av : List Addr := []
abbrev Wd.and (W : Wd) (D : Addr) : Wd := ⟨W.K, W.mg, D :: W.av⟩

mutual
inductive Rel (W : Wd) (ρ : List Addr) (H : Hp) : D → V → Prop
  | non : Rel W ρ H .non .non
  | bl (b : Bool) : Rel W ρ H (.bl b) (.bl b)
  | int (i : Int) : Rel W ρ H (.int i) (.int i)
  | str (x : Str) : Rel W ρ H (.str x) (.str x)
  | tup {xs : List D} {a : Addr} {vs : List V} : Rd H a (.tup vs) → a ∉ ρ → a ∉ W.av → Rels W ρ H xs vs → Rel W ρ H (.tup xs) (.ref a)
  | tupK {xs : List D} {a : Addr} {vs : List V} : KT W.K a vs → Rels W ρ H xs vs → Rel W ρ H (.tup xs) (.ref a)
  | lst {xs : List D} {a : Addr} {vs : List V} : Rd H a (.lst vs) → a ∉ ρ → a ∉ W.av → Rels W ρ H xs vs → Rel W ρ H (.lst xs) (.ref a)
  | lstK {xs : List D} {a : Addr} {vs : List V} : KL W.K a vs → Rels W ρ H xs vs → Rel W ρ H (.lst xs) (.ref a)
  | edct {a : Addr} : H a = some (.dK []) → a ∉ ρ → a ∉ W.av → Rel W ρ H .edct (.ref a)
  | loc {n : Nat} {a : Addr} : ρ[n]? = some a → Rel W ρ H (.loc n) (.ref a)
  | glob {x : Str} {a : Addr} : W.mg x = some (.ref a) → Rel W ρ H (.glob x) (.ref a)
  | ty (n : String) : Rel W ρ H (.ty n) (.ty n)
inductive Rels (W : Wd) (ρ : List Addr) (H : Hp) : List D → List V → Prop
  | nil : Rels W ρ H [] []
  | cons {d : D} {ds : List D} {v : V} {vs : List V} : Rel W ρ H d v → Rels W ρ H ds vs → Rels W ρ H (d :: ds) (v :: vs)
end

theorem Rels.length {W : Wd} {ρ : List Addr} {H : Hp} : ∀ {ds : List D} {vs : List V}, Rels W ρ H ds vs → ds.length = vs.length
  | _, _, .nil => rfl
  | _, _, .cons _ t => by simp [Rels.length t]
theorem Rels.get {W : Wd} {ρ : List Addr} {H : Hp} : ∀ {ds : List D} {vs : List V} {i : Nat} {d : D}, Rels W ρ H ds vs → ds[i]? = some d → ∃ v, vs[i]? = some v ∧ Rel W ρ H d v
  | _, _, _, _, .nil, e => by simp at e
  | _, _, 0, _, .cons r _, e => by simp at e; subst e; exact ⟨_, rfl, r⟩
  | _, _, i + 1, d, .cons _ t, e => by
    obtain ⟨v, h1, h2⟩ := Rels.get (i := i) t (by simpa using e)
    exact ⟨v, by simpa using h1, h2⟩
theorem Rels.get' {W : Wd} {ρ : List Addr} {H : Hp} : ∀ {ds : List D} {vs : List V} {i : Nat} {v : V}, Rels W ρ H ds vs → vs[i]? = some v → ∃ d, ds[i]? = some d ∧ Rel W ρ H d v
  | _, _, _, _, .nil, e => by simp at e
  | _, _, 0, _, .cons r _, e => by simp at e; subst e; exact ⟨_, rfl, r⟩
  | _, _, i + 1, d, .cons _ t, e => by
    obtain ⟨v, h1, h2⟩ := Rels.get' (i := i) t (by simpa using e)
    exact ⟨v, by simpa using h1, h2⟩
theorem Rels.append {W : Wd} {ρ : List Addr} {H : Hp} : ∀ {ds es : List D} {vs ws : List V}, Rels W ρ H ds vs → Rels W ρ H es ws → Rels W ρ H (ds ++ es) (vs ++ ws)
  | _, _, _, _, .nil, s => s
  | _, _, _, _, .cons r t, s => .cons r (Rels.append t s)
theorem Rels.take {W : Wd} {ρ : List Addr} {H : Hp} : ∀ {ds : List D} {vs : List V} (n : Nat), Rels W ρ H ds vs → Rels W ρ H (ds.take n) (vs.take n)
  | _, _, 0, _ => .nil
  | _, _, _ + 1, .nil => .nil
  | _, _, n + 1, .cons r t => .cons r (Rels.take n t)
theorem Rels.drop {W : Wd} {ρ : List Addr} {H : Hp} : ∀ {ds : List D} {vs : List V} (n : Nat), Rels W ρ H ds vs → Rels W ρ H (ds.drop n) (vs.drop n)
  | _, _, 0, r => r
  | _, _, _ + 1, .nil => .nil
  | _, _, n + 1, .cons _ t => Rels.drop n t
theorem Rels.one {W : Wd} {ρ : List Addr} {H : Hp} {d : D} {v : V} (r : Rel W ρ H d v) : Rels W ρ H [d] [v] := .cons r .nil
theorem Rels.set {W : Wd} {ρ : List Addr} {H : Hp} {d : D} {v : V} (r : Rel W ρ H d v) : ∀ {ds : List D} {vs : List V} (i : Nat), Rels W ρ H ds vs → Rels W ρ H (ds.set i d) (vs.set i v)
  | _, _, _, .nil => .nil
  | _, _, 0, .cons _ t => .cons r t
  | _, _, i + 1, .cons q t => .cons q (Rels.set r i t)
theorem Rels.reverse {W : Wd} {ρ : List Addr} {H : Hp} : ∀ {ds : List D} {vs : List V}, Rels W ρ H ds vs → Rels W ρ H ds.reverse vs.reverse
  | _, _, .nil => .nil
  | _, _, .cons r t => by
    rw [List.reverse_cons, List.reverse_cons]
    exact (Rels.reverse t).append (.one r)

/-! ### later heaps -/
structure Ext (ρ : List Addr) (H : Hp) (ρ' : List Addr) (H' : Hp) : Prop where
  more : ∃ l, ρ' = ρ ++ l ∧ ∀ a ∈ l, H a = none
  keep : ∀ a o, a ∉ ρ → H a = some o → (∀ q, o ≠ .tbl q) → H' a = some o
  there : ∀ a, H a ≠ none → H' a ≠ none

theorem nTl {xs : List V} : ∀ q, HO.lst xs ≠ .tbl q := fun _ z => by cases z
theorem nTt {xs : List V} : ∀ q, HO.tup xs ≠ .tbl q := fun _ z => by cases z
theorem Ext.refl {ρ : List Addr} {H : Hp} : Ext ρ H ρ H := ⟨⟨[], by simp, by simp⟩, fun _ _ _ e _ => e, fun _ e => e⟩
theorem Ext.trans {ρ ρ1 ρ2 : List Addr} {H H1 H2 : Hp} (a : Ext ρ H ρ1 H1) (b : Ext ρ1 H1 ρ2 H2) : Ext ρ H ρ2 H2 := by
  obtain ⟨l, rfl, hl⟩ := a.more
  obtain ⟨m, rfl, hm⟩ := b.more
  refine ⟨⟨l ++ m, by rw [List.append_assoc], fun x hx => ?_⟩, fun x o nx e t => ?_, fun x e => b.there x (a.there x e)⟩
  · rcases List.mem_append.mp hx with h | h
    · exact hl x h
    · cases q : H x with
      | none => rfl
      | some o => exact absurd (hm x h) (a.there x (by rw [q]; simp))
  · refine b.keep x o (fun hx => ?_) (a.keep x o nx e t) t
    rcases List.mem_append.mp hx with h | h
    · exact nx h
    · rw [hl x h] at e; cases e
theorem Ext.nin {ρ ρ' : List Addr} {H H' : Hp} (x : Ext ρ H ρ' H') {a : Addr} {o : HO} (e : H a = some o) (n : a ∉ ρ) : a ∉ ρ' := fun hm => by
  obtain ⟨l, rfl, hl⟩ := x.more
  rcases List.mem_append.mp hm with h | h
  · exact n h
  · rw [hl a h] at e; cases e
theorem Ext.rd {ρ ρ' : List Addr} {H H' : Hp} (x : Ext ρ H ρ' H') {a : Addr} {o : HO} (r : Rd H a o) (n : a ∉ ρ) (t : ∀ q, o ≠ .tbl q) : Rd H' a o ∧ a ∉ ρ' := by
  rcases r with r | ⟨ob, r⟩
  · exact ⟨.inl (x.keep a _ n r t), x.nin r n⟩
  · exact ⟨.inr ⟨ob, x.keep a _ n r fun _ z => by cases z⟩, x.nin r n⟩
mutual
theorem Rel.ext {W : Wd} {ρ ρ' : List Addr} {H H' : Hp} (x : Ext ρ H ρ' H') : ∀ {d : D} {v : V}, Rel W ρ H d v → Rel W ρ' H' d v
  | _, _, .non => .non
  | _, _, .bl b => .bl b
  | _, _, .int i => .int i
  | _, _, .str s => .str s
  | _, _, .tup r n m t => .tup (x.rd r n nTt).1 (x.rd r n nTt).2 m (Rels.ext x t)
  | _, _, .tupK r t => .tupK r (Rels.ext x t)
  | _, _, .lst r n m t => .lst (x.rd r n nTl).1 (x.rd r n nTl).2 m (Rels.ext x t)
  | _, _, .lstK r t => .lstK r (Rels.ext x t)
  | _, _, .edct e n m => .edct (x.keep _ _ n e fun _ z => by cases z) (x.nin e n) m
  | _, _, .loc e => .loc (by
      obtain ⟨l, rfl, _⟩ := x.more
      rw [List.getElem?_append_left (List.getElem?_eq_some_iff.mp e).1]
      exact e)
  | _, _, .glob e => .glob e
  | _, _, .ty n => .ty n
theorem Rels.ext {W : Wd} {ρ ρ' : List Addr} {H H' : Hp} (x : Ext ρ H ρ' H') : ∀ {ds : List D} {vs : List V}, Rels W ρ H ds vs → Rels W ρ' H' ds vs
  | _, _, .nil => .nil
  | _, _, .cons r t => .cons (Rel.ext x r) (Rels.ext x t)
end

/-! ### the store -/
def KVs (W : Wd) (ρ : List Addr) (H : Hp) : List (Key × D) → List (Key × V) → Prop := Paired fun p q => p.1 = q.1 ∧ Rel W ρ H p.2 q.2
def FVs (W : Wd) (ρ : List Addr) (H : Hp) : List (Str × D) → List (Str × V) → Prop := Paired fun p q => p.1 = q.1 ∧ Rel W ρ H p.2 q.2
theorem KVs.ext {W : Wd} {ρ ρ' : List Addr} {H H' : Hp} (x : Ext ρ H ρ' H') {l : List (Key × D)} {m : List (Key × V)} (r : KVs W ρ H l m) : KVs W ρ' H' l m := Paired.mapP r fun _ _ z => ⟨z.1, z.2.ext x⟩
theorem FVs.ext {W : Wd} {ρ ρ' : List Addr} {H H' : Hp} (x : Ext ρ H ρ' H') {l : List (Str × D)} {m : List (Str × V)} (r : FVs W ρ H l m) : FVs W ρ' H' l m := Paired.mapP r fun _ _ z => ⟨z.1, z.2.ext x⟩
def OR (W : Wd) (ρ : List Addr) (H : Hp) (a : Addr) : O → Prop
  | .lst xs => ∃ vs, H a = some (.lst vs) ∧ Rels W ρ H xs vs
  | .dct kvs => ∃ ws, H a = some (.dK ws) ∧ KVs W ρ H kvs ws
  | .ins c fs => ∃ C dx ws, W.mg c = some (.ref C) ∧ H a = some (.ins C dx ws) ∧ FVs W ρ H fs ws
  | .rng lo hi => H a = some (.rng lo hi)
/-- the defs that hold a generator expression: their code objects' tables are tracked -/
def tbNames : List Str := ["is_safe", "is_home", "are_ascending", "are_prices", "is_name", "are_phases", "has_phases", "read_number"]
def tabsOf (K : PySem.W.Frag) : List Addr := tbNames.filterMap fun x => (PySem.W.tabIn K x).map (·.2)
/-- the store lies at ρ -/
structure SR (W : Wd) (ρ : List Addr) (H : Hp) (st : Sto) : Prop where
  len : ρ.length = st.length
  nd : ρ.Nodup
  avs : ∀ a ∈ W.av, H a ≠ none ∧ a ∉ ρ
  at_ : ∀ (n : Nat) (a : Addr) (o : O), ρ[n]? = some a → st[n]? = some o → OR W ρ H a o
  tab : ∀ P ∈ tabsOf W.K, GxR.TabG H P ∧ P ∉ W.av
section
variable {W : Wd} {ρ ρ' : List Addr} {H H' : Hp} {st : Sto}
theorem OR.ext (x : Ext ρ H ρ' H') {a : Addr} {o : O} (r : OR W ρ H a o) (e : H' a = H a) : OR W ρ' H' a o := by
  cases o with
  | lst xs => obtain ⟨vs, h, t⟩ := r; exact ⟨vs, e.trans h, t.ext x⟩
  | dct kvs => obtain ⟨vs, h, t⟩ := r; exact ⟨vs, e.trans h, t.ext x⟩
  | ins c fs => obtain ⟨C, dx, vs, m, h, t⟩ := r; exact ⟨C, dx, vs, m, e.trans h, t.ext x⟩
  | rng lo hi => exact e.trans r
theorem OR.there {a : Addr} {o : O} (r : OR W ρ H a o) : H a ≠ none := by
  cases o with
  | lst xs => obtain ⟨vs, h, t⟩ := r; rw [h]; simp
  | dct kvs => obtain ⟨vs, h, t⟩ := r; rw [h]; simp
  | ins c fs => obtain ⟨C, dx, vs, m, h, t⟩ := r; rw [h]; simp
  | rng lo hi => rw [show H a = some (.rng lo hi) from r]; simp
theorem SR.get (s : SR W ρ H st) {n : Nat} {o : O} (e : st[n]? = some o) : ∃ a, ρ[n]? = some a ∧ OR W ρ H a o := by
  have h : n < ρ.length := by rw [s.len]; exact (List.getElem?_eq_some_iff.mp e).1
  exact ⟨ρ[n], List.getElem?_eq_getElem h, s.at_ n _ o (List.getElem?_eq_getElem h) e⟩
theorem SR.have (s : SR W ρ H st) {a : Addr} (h : a ∈ ρ) : H a ≠ none := by
  obtain ⟨n, hn, e⟩ := List.getElem_of_mem h
  have hs : n < st.length := by rw [← s.len]; exact hn
  exact (s.at_ n a st[n] (by rw [List.getElem?_eq_getElem hn, e]) (List.getElem?_eq_getElem hs)).there
theorem tabG_upd {H : Hp} {P a : Addr} {o : HO} (h : GxR.TabG H P) (ne : P ≠ a) : GxR.TabG (upd H a o) P := by
  obtain ⟨ps, e, t⟩ := h
  exact ⟨ps, by rw [upd_ne ne]; exact e, t⟩
theorem tabG_ne {H : Hp} {P a : Addr} (h : GxR.TabG H P) (n : H a = none) : P ≠ a := by
  rintro rfl
  obtain ⟨ps, e, _⟩ := h
  rw [n] at e; cases e
theorem SR.tabNin (s : SR W ρ H st) {P : Addr} (h : P ∈ tabsOf W.K) : P ∉ ρ := fun hm => by
  obtain ⟨⟨ps, e, _⟩, _⟩ := s.tab P h
  obtain ⟨n, hn, e2⟩ := List.getElem_of_mem hm
  have hs : n < st.length := by rw [← s.len]; exact hn
  have r := s.at_ n P st[n] (by rw [List.getElem?_eq_getElem hn, e2]) (List.getElem?_eq_getElem hs)
  cases q : st[n] with
  | lst xs => rw [q] at r; obtain ⟨vs, h, _⟩ := r; rw [h] at e; cases e
  | dct kvs => rw [q] at r; obtain ⟨vs, h, _⟩ := r; rw [h] at e; cases e
  | ins c fs => rw [q] at r; obtain ⟨C, dx, vs, _, h, _⟩ := r; rw [h] at e; cases e
  | rng lo hi => rw [q] at r; have r : H P = some (.rng lo hi) := r; rw [r] at e; cases e
theorem SR.nin (s : SR W ρ H st) {p : Addr} (h : H p = none) : p ∉ ρ := fun hm => s.have hm h
theorem SR.nav (s : SR W ρ H st) {p : Addr} (h : H p = none) : p ∉ W.av := fun hm => (s.avs p hm).1 h
/-- something new, not of the store -/
theorem Ext.new {p : Addr} {o : HO} (h : H p = none) : Ext ρ H ρ (upd H p o) :=
  ⟨⟨[], by simp, by simp⟩, fun a u _ e _ => by rw [upd_ne (ne_of_none e h)]; exact e, fun a e => by
    by_cases q : a = p
    · subst q; rw [upd_same]; simp
    · rw [upd_ne q]; exact e⟩
theorem SR.new (s : SR W ρ H st) {p : Addr} {o : HO} (h : H p = none) : SR W ρ (upd H p o) st :=
  ⟨s.len, s.nd, fun a ha => ⟨(Ext.new (ρ := ρ) h).there a (s.avs a ha).1, (s.avs a ha).2⟩, fun n a ob e1 e2 => (s.at_ n a ob e1 e2).ext (.new h) (by rw [upd_ne]; rintro rfl; exact s.nin h (List.mem_of_getElem? e1)), fun P hP => ⟨tabG_upd (s.tab P hP).1 (tabG_ne (s.tab P hP).1 h), (s.tab P hP).2⟩⟩
/-- a new object of the store -/
theorem Ext.push {p : Addr} {o : HO} (h : H p = none) : Ext ρ H (ρ ++ [p]) (upd H p o) :=
  ⟨⟨[p], rfl, fun a ha => by rw [List.mem_singleton.mp ha]; exact h⟩, fun a u _ e _ => by rw [upd_ne (ne_of_none e h)]; exact e, fun a e => by
    by_cases q : a = p
    · subst q; rw [upd_same]; simp
    · rw [upd_ne q]; exact e⟩
theorem SR.push (s : SR W ρ H st) {p : Addr} {o : HO} {ob : O} (h : H p = none) (r : OR W (ρ ++ [p]) (upd H p o) p ob) : SR W (ρ ++ [p]) (upd H p o) (st ++ [ob]) := by
  have np := s.nin h
  refine ⟨by simp [s.len], List.nodup_append.mpr ⟨s.nd, by simp, fun a ha b hb => ?_⟩, fun a ha => ⟨(Ext.new (ρ := ρ) h).there a (s.avs a ha).1, fun hm => ?_⟩, fun n a u e1 e2 => ?_, fun P hP => ⟨tabG_upd (s.tab P hP).1 (tabG_ne (s.tab P hP).1 h), (s.tab P hP).2⟩⟩
  · rw [List.mem_singleton.mp hb]; rintro rfl; exact np ha
  · rcases List.mem_append.mp hm with z | z
    · exact (s.avs a ha).2 z
    · rw [List.mem_singleton.mp z] at ha
      exact s.nav h ha
  · by_cases hn : n < ρ.length
    · rw [List.getElem?_append_left hn] at e1
      rw [List.getElem?_append_left (by rw [← s.len]; exact hn)] at e2
      exact (s.at_ n a u e1 e2).ext (.push h) (by rw [upd_ne]; rintro rfl; exact np (List.mem_of_getElem? e1))
    · rw [List.getElem?_append_right (by omega)] at e1
      rw [List.getElem?_append_right (by rw [← s.len]; omega), ← s.len] at e2
      cases hk : n - ρ.length with
      | zero => rw [hk] at e1 e2; simp at e1 e2; subst e1; subst e2; exact r
      | succ k => rw [hk] at e1; simp at e1
/-- an object of the store is written -/
theorem Ext.put {n : Nat} {a : Addr} {o : HO} (e : ρ[n]? = some a) : Ext ρ H ρ (upd H a o) :=
  ⟨⟨[], by simp, by simp⟩, fun b u hb q _ => by rw [upd_ne]; exact q; rintro rfl; exact hb (List.mem_of_getElem? e), fun b q => by
    by_cases z : b = a
    · subst z; rw [upd_same]; simp
    · rw [upd_ne z]; exact q⟩
theorem SR.put (s : SR W ρ H st) {n : Nat} {a : Addr} {o : HO} {ob : O} (e : ρ[n]? = some a) (r : OR W ρ (upd H a o) a ob) : SR W ρ (upd H a o) (st.set n ob) := by
  refine ⟨by simp [s.len], s.nd, fun b hb => ⟨(Ext.put (H := H) (o := o) e).there b (s.avs b hb).1, (s.avs b hb).2⟩, fun m b u e1 e2 => ?_, fun P hP => ⟨tabG_upd (s.tab P hP).1 (fun z => s.tabNin hP (by rw [z]; exact List.mem_of_getElem? e)), (s.tab P hP).2⟩⟩
  by_cases hm : m = n
  · subst hm
    rw [e] at e1; cases e1
    have hl : m < st.length := by rw [← s.len]; exact (List.getElem?_eq_some_iff.mp e).1
    rw [List.getElem?_set_self hl] at e2
    cases e2
    exact r
  · rw [List.getElem?_set_ne (Ne.symm hm)] at e2
    have hb : b ≠ a := by
      rintro rfl
      obtain ⟨h1, q1⟩ := List.getElem?_eq_some_iff.mp e1
      obtain ⟨h2, q2⟩ := List.getElem?_eq_some_iff.mp e
      exact hm ((List.getElem_inj s.nd).mp (q1.trans q2.symm))
    exact (s.at_ m b u e1 e2).ext (.put e) (upd_ne hb)
end

/-! ### a list that is being filled at D -/
theorem nmem_cons {a D : Addr} {l : List Addr} (h : a ≠ D) (m : a ∉ l) : a ∉ D :: l := fun z => (List.mem_cons.mp z).elim h m
theorem nmem_head {a D : Addr} {l : List Addr} (m : a ∉ D :: l) : a ≠ D := fun z => m (by rw [z]; exact List.mem_cons_self)
theorem nmem_tail {a D : Addr} {l : List Addr} (m : a ∉ D :: l) : a ∉ l := fun z => m (List.mem_cons_of_mem _ z)
theorem rd_ne {H : Hp} {a D : Addr} {o : HO} (r : Rd H a o) (h : H D = none) : a ≠ D := by
  rintro rfl
  rcases r with r | ⟨_, r⟩ <;> (rw [h] at r; cases r)
theorem rd_upd {H : Hp} {a D : Addr} {o u : HO} (r : Rd H a o) (h : a ≠ D) : Rd (upd H D u) a o := by
  rcases r with r | ⟨ob, r⟩
  · exact .inl (by rw [upd_ne h]; exact r)
  · exact .inr ⟨ob, by rw [upd_ne h]; exact r⟩
mutual
theorem Rel.fill {W : Wd} {ρ : List Addr} {H : Hp} {D : Addr} {o : HO} (h : H D = none) : ∀ {d : DX.D} {v : V}, Rel W ρ H d v → Rel (W.and D) ρ (upd H D o) d v
  | _, _, .non => .non
  | _, _, .bl b => .bl b
  | _, _, .int i => .int i
  | _, _, .str s => .str s
  | _, _, .tup r n m t => .tup (rd_upd r (rd_ne r h)) n (nmem_cons (rd_ne r h) m) (Rels.fill h t)
  | _, _, .tupK r t => .tupK r (Rels.fill h t)
  | _, _, .lst r n m t => .lst (rd_upd r (rd_ne r h)) n (nmem_cons (rd_ne r h) m) (Rels.fill h t)
  | _, _, .lstK r t => .lstK r (Rels.fill h t)
  | _, _, .edct e n m => .edct (by rw [upd_ne (ne_of_none e h)]; exact e) n (nmem_cons (ne_of_none e h) m)
  | _, _, .loc e => .loc e
  | _, _, .glob e => .glob e
  | _, _, .ty n => .ty n
theorem Rels.fill {W : Wd} {ρ : List Addr} {H : Hp} {D : Addr} {o : HO} (h : H D = none) : ∀ {d : List DX.D} {v : List V}, Rels W ρ H d v → Rels (W.and D) ρ (upd H D o) d v
  | _, _, .nil => .nil
  | _, _, .cons r t => .cons (Rel.fill h r) (Rels.fill h t)
end
mutual
theorem Rel.more {W : Wd} {ρ : List Addr} {H : Hp} {D : Addr} {o : HO} : ∀ {d : DX.D} {v : V}, Rel (W.and D) ρ H d v → Rel (W.and D) ρ (upd H D o) d v
  | _, _, .non => .non
  | _, _, .bl b => .bl b
  | _, _, .int i => .int i
  | _, _, .str s => .str s
  | _, _, .tup r n m t => .tup (rd_upd r (nmem_head m)) n m (Rels.more t)
  | _, _, .tupK r t => .tupK r (Rels.more t)
  | _, _, .lst r n m t => .lst (rd_upd r (nmem_head m)) n m (Rels.more t)
  | _, _, .lstK r t => .lstK r (Rels.more t)
  | _, _, .edct e n m => .edct (by rw [upd_ne (nmem_head m)]; exact e) n m
  | _, _, .loc e => .loc e
  | _, _, .glob e => .glob e
  | _, _, .ty n => .ty n
theorem Rels.more {W : Wd} {ρ : List Addr} {H : Hp} {D : Addr} {o : HO} : ∀ {d : List DX.D} {v : List V}, Rels (W.and D) ρ H d v → Rels (W.and D) ρ (upd H D o) d v
  | _, _, .nil => .nil
  | _, _, .cons r t => .cons (Rel.more r) (Rels.more t)
end
mutual
theorem Rel.done {W : Wd} {ρ : List Addr} {H : Hp} {D : Addr} : ∀ {d : DX.D} {v : V}, Rel (W.and D) ρ H d v → Rel W ρ H d v
  | _, _, .non => .non
  | _, _, .bl b => .bl b
  | _, _, .int i => .int i
  | _, _, .str s => .str s
  | _, _, .tup r n m t => .tup r n (nmem_tail m) (Rels.done t)
  | _, _, .tupK r t => .tupK r (Rels.done t)
  | _, _, .lst r n m t => .lst r n (nmem_tail m) (Rels.done t)
  | _, _, .lstK r t => .lstK r (Rels.done t)
  | _, _, .edct e n m => .edct e n (nmem_tail m)
  | _, _, .loc e => .loc e
  | _, _, .glob e => .glob e
  | _, _, .ty n => .ty n
theorem Rels.done {W : Wd} {ρ : List Addr} {H : Hp} {D : Addr} : ∀ {d : List DX.D} {v : List V}, Rels (W.and D) ρ H d v → Rels W ρ H d v
  | _, _, .nil => .nil
  | _, _, .cons r t => .cons (Rel.done r) (Rels.done t)
end
section
variable {W : Wd} {ρ : List Addr} {H H' : Hp} {st : Sto} {D a : Addr}
theorem OR.map (W' : Wd) (ρ' : List Addr) (H' : Hp) (mg : W'.mg = W.mg) (f : ∀ (d : DX.D) (v : V), Rel W ρ H d v → Rel W' ρ' H' d v) (e : H' a = H a) {o : O} (r : OR W ρ H a o) : OR W' ρ' H' a o := by
  have fs : ∀ {ds : List DX.D} {vs : List V}, Rels W ρ H ds vs → Rels W' ρ' H' ds vs := by
    intro ds
    induction ds with
    | nil => intro vs t; cases t; exact .nil
    | cons d ds ih => intro vs t; cases t with | cons r t => exact .cons (f _ _ r) (ih t)
  cases o with
  | lst xs => obtain ⟨vs, h, t⟩ := r; exact ⟨vs, e.trans h, fs t⟩
  | dct kvs => obtain ⟨vs, h, t⟩ := r; exact ⟨vs, e.trans h, Paired.mapP t fun _ _ z => ⟨z.1, f _ _ z.2⟩⟩
  | ins c l => obtain ⟨C, dx, vs, m, h, t⟩ := r; exact ⟨C, dx, vs, by rw [mg]; exact m, e.trans h, Paired.mapP t fun _ _ z => ⟨z.1, f _ _ z.2⟩⟩
  | rng lo hi => exact e.trans r
theorem SR.fill {o : HO} (s : SR W ρ H st) (h : H D = none) : SR (W.and D) ρ (upd H D o) st where
  len := s.len
  nd := s.nd
  avs := fun a ha => by
    rcases List.mem_cons.mp ha with rfl | ha
    · exact ⟨by rw [upd_same]; simp, s.nin h⟩
    · exact ⟨(Ext.new (ρ := ρ) h).there a (s.avs a ha).1, (s.avs a ha).2⟩
  at_ := fun n a ob e1 e2 => OR.map (W := W) (W' := W.and D) (ρ' := ρ) (H' := upd H D o) (r := s.at_ n a ob e1 e2) (mg := rfl) (f := fun _ _ r => r.fill h) (e := upd_ne (fun z => s.nin h (by rw [← z]; exact List.mem_of_getElem? e1)))
  tab := fun P hP => ⟨tabG_upd (s.tab P hP).1 (tabG_ne (s.tab P hP).1 h), nmem_cons (tabG_ne (s.tab P hP).1 h) (s.tab P hP).2⟩
theorem SR.more {o : HO} (s : SR (W.and D) ρ H st) : SR (W.and D) ρ (upd H D o) st where
  len := s.len
  nd := s.nd
  avs := fun a ha => ⟨by
    by_cases q : a = D
    · subst q; rw [upd_same]; simp
    · rw [upd_ne q]; exact (s.avs a ha).1, (s.avs a ha).2⟩
  at_ := fun n a ob e1 e2 => OR.map (W := W.and D) (W' := W.and D) (ρ' := ρ) (H' := upd H D o) (r := s.at_ n a ob e1 e2) (mg := rfl) (f := fun _ _ r => r.more) (e := upd_ne (fun z => (s.avs D List.mem_cons_self).2 (by rw [← z]; exact List.mem_of_getElem? e1)))
  tab := fun P hP => ⟨tabG_upd (s.tab P hP).1 (nmem_head (s.tab P hP).2), (s.tab P hP).2⟩
theorem SR.done (s : SR (W.and D) ρ H st) : SR W ρ H st where
  len := s.len
  nd := s.nd
  avs := fun a ha => s.avs a (List.mem_cons_of_mem _ ha)
  at_ := fun n a ob e1 e2 => OR.map (W := W.and D) (W' := W) (ρ' := ρ) (H' := H) (r := s.at_ n a ob e1 e2) (mg := rfl) (f := fun _ _ r => r.done) (e := rfl)
  tab := fun P hP => ⟨(s.tab P hP).1, nmem_tail (s.tab P hP).2⟩
end

/-- the list (tuple) of a value -/
def items (st : Sto) : D → Option (List D)
  | .lst xs => some xs
  | .loc n => match st[n]? with
    | some (.lst xs) => some xs
    | _ => none
  | _ => none
def seqItems (st : Sto) : D → Option (List D)
  | .tup xs => some xs
  | d => items st d
theorem KL.sq {W : Wd} {H : Hp} {a : Addr} {xs : List V} (h : KL W.K a xs) : SqL W.K H a xs := .inr h
theorem KT.sq {W : Wd} {H : Hp} {a : Addr} {xs : List V} (h : KT W.K a xs) : SqT W.K H a xs := .inr h
theorem Rel.list {W : Wd} {ρ : List Addr} {H : Hp} {st : Sto} (s : SR W ρ H st) {d : D} {v : V} {xs : List D} (r : Rel W ρ H d v) (e : items st d = some xs) : ∃ a vs, v = .ref a ∧ SqL W.K H a vs ∧ Rels W ρ H xs vs := by
  cases r with
  | lst h n _ t => cases e; exact ⟨_, _, rfl, .inl h, t⟩
  | lstK h t => cases e; exact ⟨_, _, rfl, .inr h, t⟩
  | @loc n a h =>
    unfold items at e
    cases q : st[n]? with
    | none => simp [q] at e
    | some o =>
      cases o with
      | lst ys =>
        simp [q] at e; subst e
        obtain ⟨vs, h1, t⟩ := s.at_ n a _ h q
        exact ⟨_, _, rfl, .of h1, t⟩
      | dct _ => simp [q] at e
      | ins _ _ => simp [q] at e
      | rng _ _ => simp [q] at e
  | _ => cases e
theorem Rel.tuple {W : Wd} {ρ : List Addr} {H : Hp} {xs : List D} {v : V} (r : Rel W ρ H (.tup xs) v) : ∃ a vs, v = .ref a ∧ SqT W.K H a vs ∧ Rels W ρ H xs vs := by
  cases r with
  | tup h n _ t => exact ⟨_, _, rfl, .inl h, t⟩
  | tupK h t => exact ⟨_, _, rfl, .inr h, t⟩
end DX

/-! DxB: calls whose surroundings bear no guard (repr asks for that). -/
set_option linter.all false
set_option maxRecDepth 100000
set_option Elab.async false
namespace DX
open PySem PySem.Spec PyProof.Rows L2

/-- nothing that shows itself runs around -/
def Free (A : Around) : Prop := A.guards = some []
theorem Free.deeper {A : Around} (h : Free A) (env : Env) : Free (A.deeper env) := h

/-- a def's promise, asked only where nothing shows itself -/
structure FnG (P : Program) (w : World) (K : PySem.W.Frag) (mg : Str → Option Value) (base : Heap) (k : Nat) (f : Addr) (fd : FuncData) (ps : List Str) (sp : Sp) : Prop where
  many : ∀ vs H Q E, sp vs H Q E → vs.length = ps.length
  go : ∀ (A : Around) (outer : List Env) (s : Shared) (H : Hp) (args : Args) (us : List Value) (vs : List V) (Q : VK) (E : XK), Free A → Room k A → Env0 P w K mg base A outer s H →
    BindsTo s fd args (ps.zip us) → Vals vs us → sp vs H Q E → codeAny (model P w) A (.call (.ref f) args) (CR (L2.CX P w) outer P w H s Q E) s
theorem FnG.mono {P : Program} {w : World} {K : PySem.W.Frag} {mg : Str → Option Value} {base : Heap} {j k : Nat} {f : Addr} {fd : FuncData} {ps : List Str} {sp : Sp} (F : FnG P w K mg base j f fd ps sp) (h : j ≤ k) : FnG P w K mg base k f fd ps sp :=
  ⟨F.many, fun A outer s H args us vs Q E fr hr => F.go A outer s H args us vs Q E fr (hr.mono h)⟩

/-- by the body -/
theorem FnG.of {P : Program} {w : World} {K : PySem.W.Frag} {mg : Str → Option Value} {base : Heap} {k : Nat} {f : Addr} {x qual : Str} {st : Stmt} {fd : FuncData} {N ps : List Str} {sp : Sp}
    (F : Fun K x qual st f fd) (S : FnScope N ps (defScope st)) (many : ∀ vs H Q E, sp vs H Q E → vs.length = ps.length)
    (body : ∀ (cd : Value) (A : Around) (outer : List Env) (s : Shared) (H : Hp) (vs : List V) (Q : VK) (E : XK), fd.code = cd → Free A → Room k (A.deeper (envOfC qual (defScope st) s.heap.objs.size f cd)) → sp vs H Q E →
      ∃ t, PSs (cxOf (L2.CX P w) P w K mg base N qual (defScope st) f cd A outer s H E) (defBody st) t ∧ t { nx := fun _ H' => Q .non H', rt := Q } (L2.start N vs) H) :
    FnG P w K mg base (k + 1) f fd ps sp := by
  obtain ⟨oc, od, kV, doc, pm, an, cdv, ct, osl, rfl, look, code⟩ := F.ex
  refine ⟨many, fun A outer s H args us vs Q E fr hr e0 hb rv hsp => ?_⟩
  have same : ∀ b o, base.get? b = some o → s.heap.get? b = some o := fun b o e => (e0.bs b o e).1
  have inK := e0.mod.kin.keeps same
  have noLim := e0.mod.nolimit.keeps same
  have kinds : ∀ y ∈ ps.zip us, (defScope st).names.lookup y.1 = some .local ∨ ((defScope st).names.lookup y.1 = some .cell ∧ ((cellsFrom (s.heap.objs.size + 1) (defScope st).names []).lookup y.1).isSome = true) := by
    rintro ⟨n, v⟩ hy
    cases S.par n (List.of_mem_zip hy).1 with
    | inl q => exact .inl q
    | inr q => exact .inr ⟨q, PySem.W.cellsFrom_some _ _ _ (.inl q)⟩
  apply codeAny_call_function hr.depth (inK _ _ look) rfl S.co S.gen rfl (PySem.W.codeRec_of inK code) (hb _ _ _ _ _)
  apply wpAny_newFunctionEnv_cells S.kind kinds
  intro env he s1 x
  subst he
  refine ⟨noLim.keeps x.toInCall.keep, codeAny_func ?_⟩
  obtain ⟨t, ht, hq⟩ := body cdv A outer s H vs Q E rfl fr (hr.deeper _) hsp
  have I0 : Inv (cxOf (L2.CX P w) P w K mg base N qual (defScope st) f cdv A outer s H E) [] (L2.start N vs) H s1 := inv_start S hr.hd e0 (many _ _ _ _ hsp) rv x
  refine wpAny_mono (ht.run [] s1 _ H _ I0 hq) (fun fl s' hs => ?_) (fun _ _ z => z)
  match fl, hs with
  | .ret u, ⟨v, σ', H', J, r, q⟩ => exact ⟨v, H', J.os, J.bare, J.base, J.hok, r, q⟩
  | .next, ⟨σ', H', J, q⟩ => exact ⟨.non, H', J.os, J.bare, J.base, J.hok, rfl, q⟩
  | .brk, ⟨_, _, _, q⟩ => exact q.elim
  | .cont, ⟨_, _, _, q⟩ => exact q.elim

/-- what a callee's end is to the caller -/
theorem back {X : Cx} {pins : List (Addr × Obj)} {σ : L2.St} {H : Hp} {s : Shared} {Q : VK} {W : WX} (tk : Takes X W) (I : Inv X pins σ H s) {r : Result} {s' : Shared} (h : CR (L2.CX X.prog X.w) X.stack X.prog X.w H s Q (WE W σ) r s') :
    (match r with
    | .ok (.ret u) => EP X pins σ Q u s'
    | .ok _ => False
    | .error e => X.xe e s') := by
  cases r with
  | error e => exact passAt tk σ pins H s e s' I h
  | ok fl => cases fl with
    | ret u => exact I.after h
    | _ => exact h
theorem FnG.call {X : Cx} {k : Nat} {f : Addr} {fd : FuncData} {ps ks : List Str} {sp : Sp} {W : WX} (F : FnG X.prog X.w X.K X.mg X.base k f fd ps sp) (fr : Free X.A) (hr : Room k X.A) (tk : Takes X W)
    {pins : List (Addr × Obj)} {σ : L2.St} {H : Hp} {s : Shared} {Q : VK} {us ws all : List Value} {vs : List V} (I : Inv X pins σ H s) (b : BindsTo s fd ⟨us, ks.zip ws⟩ (ps.zip all)) (r : Vals vs all) (h : sp vs H Q (WE W σ)) :
    wpAny (model X.prog X.w) X.A (call (.ref f) us (ks.zip ws)) (EP X pins σ Q) X.xe s := by
  refine wpAny_call (codeAny_mono (F.go X.A X.stack s H _ all vs Q _ fr hr I.env0 b r h) fun r s' hq => ?_)
  have g := back tk I hq
  cases r with
  | error e => exact g
  | ok fl => cases fl with
    | ret u => exact g
    | _ => exact False.elim g
end DX

/-! DxC: what expressions come to; how a reading follows from that. -/
set_option linter.all false
set_option maxRecDepth 100000
set_option Elab.async false
namespace DX
open PySem PySem.Spec PyProof.Rows L2

abbrev Sl := List (Option D)
abbrev EM := Sl → Sto → R D
abbrev LM := Sl → Sto → R (List D)
abbrev TM := Sl → Sto → R Bool

def R.bind {α β : Type} (r : R α) (f : α → Sto → R β) : R β :=
  match r with
  | .ok a st => f a st
  | .exc c fs st => .exc c fs st
  | .no => .no
/-- a value that is there -/
def R.of {α : Type} (o : Option α) (st : Sto) : R α :=
  match o with
  | some a => .ok a st
  | none => .no

/-- an own exception: its class, its fields -/
def ExcR (W : Wd) (ρ : List Addr) (H : Hp) (c : Str) (fs : List (Str × D)) (cls : Value) (dd : Option Addr) : Prop :=
  ∃ C, W.mg c = some (.ref C) ∧ cls = .ref C ∧ ((fs = [] ∧ dd = none) ∨ ∃ d ws, fs ≠ [] ∧ dd = some d ∧ H d = some (.xd ws) ∧ FVs W ρ H fs ws)

/-- what is wanted behind an evaluation -/
def Post {α β : Type} (W : Wd) (rel : List Addr → Hp → α → β → Prop) (E : XK) (ρ : List Addr) (H : Hp) (Q : β → Hp → Prop) : R α → Prop
  | .ok a st' => ∀ b ρ' H', Ext ρ H ρ' H' → SR W ρ' H' st' → rel ρ' H' a b → Q b H'
  | .exc c fs st' => ∀ cls dd ρ' H', Ext ρ H ρ' H' → SR W ρ' H' st' → ExcR W ρ' H' c fs cls dd → E cls dd H'
  | .no => False

section
variable {W : Wd} {α β α' β' : Type} {rel : List Addr → Hp → α → β → Prop} {rel' : List Addr → Hp → α' → β' → Prop} {E : XK} {ρ : List Addr} {H : Hp} {Q : β' → Hp → Prop}
theorem Post.bind {r : R α} {f : α → Sto → R α'} (h : Post W rel' E ρ H Q (r.bind f)) :
    Post W rel E ρ H (fun b H1 => ∃ a ρ1 st1, Ext ρ H ρ1 H1 ∧ SR W ρ1 H1 st1 ∧ rel ρ1 H1 a b ∧ Post W rel' E ρ1 H1 Q (f a st1)) r := by
  cases r with
  | ok a st =>
    intro b ρ1 H1 x s q
    refine ⟨a, ρ1, st, x, s, q, ?_⟩
    have h' : Post W rel' E ρ H Q (f a st) := h
    cases e : f a st with
    | ok a' st' =>
      rw [e] at h'
      exact fun b' ρ2 H2 x2 s2 q2 => h' b' ρ2 H2 (x.trans x2) s2 q2
    | exc c fs st' =>
      rw [e] at h'
      exact fun cls dd ρ2 H2 x2 s2 q2 => h' cls dd ρ2 H2 (x.trans x2) s2 q2
    | no => rw [e] at h'; exact h'
  | exc c fs st => exact h
  | no => exact h
theorem Post.ok {a : α'} {st : Sto} {b : β'} (h : Post W rel' E ρ H Q (.ok a st)) (s : SR W ρ H st) (q : rel' ρ H a b) : Q b H := h b ρ H .refl s q
theorem Post.imp {r : R α'} {Q' : β' → Hp → Prop} (h : Post W rel' E ρ H Q r) (f : ∀ b H', Q b H' → Q' b H') : Post W rel' E ρ H Q' r := by
  cases r with
  | ok a st => exact fun b ρ1 H1 x s q => f _ _ (h b ρ1 H1 x s q)
  | exc c fs st => exact h
  | no => exact h
/-- from a later state -/
theorem Post.ext {r : R α'} {ρ1 : List Addr} {H1 : Hp} (h : Post W rel' E ρ H Q r) (x : Ext ρ H ρ1 H1) : Post W rel' E ρ1 H1 Q r := by
  cases r with
  | ok a st => exact fun b ρ2 H2 x2 s q => h b ρ2 H2 (x.trans x2) s q
  | exc c fs st => exact fun cls dd ρ2 H2 x2 s q => h cls dd ρ2 H2 (x.trans x2) s q
  | no => exact h
end

/-! ### slots -/
structure ER (W : Wd) (ρ : List Addr) (H : Hp) (e : Sl) (σ : L2.St) : Prop where
  len : e.length = σ.length
  at_ : ∀ (i : Nat) (d : D), e[i]? = some (some d) → ∃ v, σ[i]? = some (some v) ∧ Rel W ρ H d v
theorem ER.ext {W : Wd} {ρ ρ' : List Addr} {H H' : Hp} {e : Sl} {σ : L2.St} (r : ER W ρ H e σ) (x : Ext ρ H ρ' H') : ER W ρ' H' e σ :=
  ⟨r.len, fun i d h => let ⟨v, h1, h2⟩ := r.at_ i d h; ⟨v, h1, h2.ext x⟩⟩
theorem ER.set {W : Wd} {ρ : List Addr} {H : Hp} {e : Sl} {σ : L2.St} (r : ER W ρ H e σ) (i : Nat) {d : D} {v : V} (q : Rel W ρ H d v) : ER W ρ H (e.set i (some d)) (σ.set i (some v)) := by
  refine ⟨by simp [r.len], fun j d' h => ?_⟩
  by_cases hj : i = j
  · subst hj
    have hl : i < e.length := by
      have := (List.getElem?_eq_some_iff.mp h).1
      simpa using this
    rw [List.getElem?_set_self hl] at h
    cases h
    exact ⟨v, List.getElem?_set_self (by rw [← r.len]; exact hl), q⟩
  · rw [List.getElem?_set_ne hj] at h
    obtain ⟨w, h1, h2⟩ := r.at_ j d' h
    exact ⟨w, by rw [List.getElem?_set_ne hj]; exact h1, h2⟩
theorem ER.un {W : Wd} {ρ : List Addr} {H : Hp} {e : Sl} {σ : L2.St} (r : ER W ρ H e σ) (i : Nat) : ER W ρ H (e.set i none) (σ.set i none) := by
  refine ⟨by simp [r.len], fun j d' h => ?_⟩
  by_cases hj : i = j
  · subst hj
    have hl : i < e.length := by
      have := (List.getElem?_eq_some_iff.mp h).1
      simpa using this
    rw [List.getElem?_set_self hl] at h
    cases h
  · rw [List.getElem?_set_ne hj] at h
    obtain ⟨w, h1, h2⟩ := r.at_ j d' h
    exact ⟨w, by rw [List.getElem?_set_ne hj]; exact h1, h2⟩
theorem ER.mapW {W W' : Wd} {ρ : List Addr} {H H' : Hp} {e : Sl} {σ : L2.St} (r : ER W ρ H e σ) (f : ∀ d v, Rel W ρ H d v → Rel W' ρ H' d v) : ER W' ρ H' e σ :=
  ⟨r.len, fun i d h => let ⟨v, h1, h2⟩ := r.at_ i d h; ⟨v, h1, f _ _ h2⟩⟩

/-! ### readings that follow -/
abbrev WX' := WX
def SndE (K : PySem.W.Frag) (mg : Str → Option Value) (t : TE) (Wx : WX) (m : EM) : Prop :=
  ∀ av σ e ρ H st (Q : VK), SR ⟨K, mg, av⟩ ρ H st → ER ⟨K, mg, av⟩ ρ H e σ → Post ⟨K, mg, av⟩ (Rel ⟨K, mg, av⟩) (fun c d H => Wx c d σ H) ρ H Q (m e st) → t σ H Q
def SndL (K : PySem.W.Frag) (mg : Str → Option Value) (t : TA) (Wx : WX) (m : LM) : Prop :=
  ∀ av σ e ρ H st (Q : List V → Hp → Prop), SR ⟨K, mg, av⟩ ρ H st → ER ⟨K, mg, av⟩ ρ H e σ → Post ⟨K, mg, av⟩ (Rels ⟨K, mg, av⟩) (fun c d H => Wx c d σ H) ρ H Q (m e st) → t σ H Q
def SndT (K : PySem.W.Frag) (mg : Str → Option Value) (t : TT) (Wx : WX) (m : TM) : Prop :=
  ∀ av σ e ρ H st (Q : Bool → Hp → Prop), SR ⟨K, mg, av⟩ ρ H st → ER ⟨K, mg, av⟩ ρ H e σ → Post ⟨K, mg, av⟩ (fun _ _ a b => a = b) (fun c d H => Wx c d σ H) ρ H Q (m e st) → t σ H Q
/-- an expression comes to m -/
def DE (X : Cx) (e : Expr) (m : EM) : Prop := ∀ Wx, Takes X Wx → ∃ t, PE X e t ∧ SndE X.K X.mg t Wx m
def DL (X : Cx) (es : List Expr) (m : LM) : Prop := ∀ Wx, Takes X Wx → ∃ t, PA X es t ∧ SndL X.K X.mg t Wx m
def DT (X : Cx) (e : Expr) (m : TM) : Prop := ∀ Wx, Takes X Wx → ∃ t, PT X e t ∧ SndT X.K X.mg t Wx m

/-! ### constants, names -/
def mC (d : D) : EM := fun _ st => .ok d st
def mVar (i : Nat) : EM := fun e st => match e[i]? with
  | some (some d) => .ok d st
  | _ => .no
theorem snd_var {K : PySem.W.Frag} {mg : Str → Option Value} {Wx : WX} {i : Nat} : SndE K mg (tVar i) Wx (mVar i) := by
  intro av σ e ρ H st Q s er h
  unfold mVar at h
  split at h
  · rename_i d hd
    obtain ⟨v, h1, h2⟩ := er.at_ i d hd
    exact ⟨v, h1, h.ok s h2⟩
  · exact h.elim
theorem snd_c {K : PySem.W.Frag} {mg : Str → Option Value} {Wx : WX} {d : D} {v : V} (r : ∀ av ρ H, Rel ⟨K, mg, av⟩ ρ H d v) : SndE K mg (tC v) Wx (mC d) := by
  intro av σ e ρ H st Q s er h
  exact h.ok s (r av ρ H)

/-! ### lists of expressions -/
def mL : List EM → LM
  | [], _, st => .ok [] st
  | m :: ms, e, st => (m e st).bind fun d st1 => (mL ms e st1).bind fun ds st2 => .ok (d :: ds) st2
theorem snd_nil {K : PySem.W.Frag} {mg : Str → Option Value} {Wx : WX} : SndL K mg tNil Wx (mL []) := by
  intro av σ e ρ H st Q s er h
  exact h.ok s .nil
theorem snd_cons {K : PySem.W.Frag} {mg : Str → Option Value} {Wx : WX} {te : TE} {ta : TA} {m : EM} {ms : List EM} (h1 : SndE K mg te Wx m) (h2 : SndL K mg ta Wx (mL ms)) : SndL K mg (tCons te ta) Wx (mL (m :: ms)) := by
  intro av σ e ρ H st Q s er h
  refine h1 av σ e ρ H st _ s er ((Post.bind h).imp ?_)
  rintro v H1 ⟨d, ρ1, st1, x1, s1, r1, q1⟩
  refine h2 av σ e ρ1 H1 st1 _ s1 (er.ext x1) ((Post.bind q1).imp ?_)
  rintro vs H2 ⟨ds, ρ2, st2, x2, s2, r2, q2⟩
  exact q2.ok s2 (.cons (r1.ext x2) r2)

/-! ### new lists, tuples -/
/-- a new list: an object of the store (mt), or data -/
def newL (mt : Bool) (xs : List D) (st : Sto) : R D := if mt then .ok (.loc st.length) (st ++ [.lst xs]) else .ok (.lst xs) st
theorem post_newL {W : Wd} {E : XK} {ρ : List Addr} {H : Hp} {Q : VK} {mt : Bool} {xs : List D} {vs : List V} {st : Sto} (s : SR W ρ H st) (r : Rels W ρ H xs vs) (h : Post W (Rel W) E ρ H Q (newL mt xs st)) :
    ∀ p, H p = none → Q (.ref p) (upd H p (.lst vs)) := by
  intro p np
  unfold newL at h
  cases mt with
  | true =>
    rw [if_pos rfl] at h
    have x : Ext ρ H (ρ ++ [p]) (upd H p (.lst vs)) := .push np
    exact h (.ref p) _ _ x (s.push np ⟨vs, upd_same, r.ext x⟩) (.loc (by rw [← s.len, List.getElem?_append_right (Nat.le_refl _), Nat.sub_self]; rfl))
  | false =>
    rw [if_neg (by simp)] at h
    have x : Ext ρ H ρ (upd H p (.lst vs)) := .new np
    exact h (.ref p) _ _ x (s.new np) (.lst (.inl upd_same) (s.nin np) (s.nav np) (r.ext x))
theorem post_newT {W : Wd} {E : XK} {ρ : List Addr} {H : Hp} {Q : VK} {xs : List D} {vs : List V} {st : Sto} (s : SR W ρ H st) (r : Rels W ρ H xs vs) (h : Post W (Rel W) E ρ H Q (.ok (.tup xs) st)) :
    ∀ p, H p = none → Q (.ref p) (upd H p (.tup vs)) := by
  intro p np
  have x : Ext ρ H ρ (upd H p (.tup vs)) := .new np
  exact h (.ref p) _ _ x (s.new np) (.tup (.inl upd_same) (s.nin np) (s.nav np) (r.ext x))
def fits (xs : List D) : Bool := decide (xs.length ≤ sizeLine)
def mTup (ms : List EM) : EM := fun e st => (mL ms e st).bind fun ds st1 => if fits ds then .ok (.tup ds) st1 else .no
def mLst (mt : Bool) (ms : List EM) : EM := fun e st => (mL ms e st).bind fun ds st1 => if fits ds then newL mt ds st1 else .no
theorem snd_tup {K : PySem.W.Frag} {mg : Str → Option Value} {Wx : WX} {ta : TA} {ms : List EM} (h1 : SndL K mg ta Wx (mL ms)) : SndE K mg (tTup ta) Wx (mTup ms) := by
  intro av σ e ρ H st Q s er h
  refine h1 av σ e ρ H st _ s er ((Post.bind h).imp ?_)
  rintro vs H1 ⟨ds, ρ1, st1, x1, s1, r1, q1⟩
  split at q1
  · rename_i hz
    exact ⟨by rw [← r1.length]; exact of_decide_eq_true hz, post_newT s1 r1 q1⟩
  · exact q1.elim
theorem snd_lst {K : PySem.W.Frag} {mg : Str → Option Value} {Wx : WX} {ta : TA} {ms : List EM} {mt : Bool} (h1 : SndL K mg ta Wx (mL ms)) : SndE K mg (tLst ta) Wx (mLst mt ms) := by
  intro av σ e ρ H st Q s er h
  refine h1 av σ e ρ H st _ s er ((Post.bind h).imp ?_)
  rintro vs H1 ⟨ds, ρ1, st1, x1, s1, r1, q1⟩
  split at q1
  · rename_i hz
    exact ⟨by rw [← r1.length]; exact of_decide_eq_true hz, post_newL s1 r1 q1⟩
  · exact q1.elim

/-! ### operations on values -/
/-- a two-place operation: what it reads as follows -/
def SndO (K : PySem.W.Frag) (mg : Str → Option Value) (r : R2) (f : D → D → Sto → R D) : Prop :=
  ∀ av E ρ H st (Q : VK) a b x y, SR ⟨K, mg, av⟩ ρ H st → Rel ⟨K, mg, av⟩ ρ H a x → Rel ⟨K, mg, av⟩ ρ H b y → Post ⟨K, mg, av⟩ (Rel ⟨K, mg, av⟩) E ρ H Q (f a b st) → r x y H Q
def mOp (f : D → D → Sto → R D) (a b : EM) : EM := fun e st => (a e st).bind fun x st1 => (b e st1).bind fun y st2 => f x y st2
theorem snd_op {K : PySem.W.Frag} {mg : Str → Option Value} {Wx : WX} {ta tb : TE} {a b : EM} {r : R2} {f : D → D → Sto → R D} (hf : SndO K mg r f) (ha : SndE K mg ta Wx a) (hb : SndE K mg tb Wx b) : SndE K mg (tOp r ta tb) Wx (mOp f a b) := by
  intro av σ e ρ H st Q s er h
  refine ha av σ e ρ H st _ s er ((Post.bind h).imp ?_)
  rintro v H1 ⟨x, ρ1, st1, x1, s1, r1, q1⟩
  refine hb av σ e ρ1 H1 st1 _ s1 (er.ext x1) ((Post.bind q1).imp ?_)
  rintro w H2 ⟨y, ρ2, st2, x2, s2, r2, q2⟩
  exact hf av _ ρ2 H2 st2 Q x y v w s2 (r1.ext x2) r2 q2
/-- a call of a builtin by values -/
def SndC (K : PySem.W.Frag) (mg : Str → Option Value) (r : List V → Hp → VK → Prop) (f : List D → Sto → R D) : Prop :=
  ∀ av E ρ H st (Q : VK) ds vs, SR ⟨K, mg, av⟩ ρ H st → Rels ⟨K, mg, av⟩ ρ H ds vs → Post ⟨K, mg, av⟩ (Rel ⟨K, mg, av⟩) E ρ H Q (f ds st) → r vs H Q
def mCall (f : List D → Sto → R D) (ms : List EM) : EM := fun e st => (mL ms e st).bind f
theorem snd_callB {K : PySem.W.Frag} {mg : Str → Option Value} {Wx : WX} {ta : TA} {ms : List EM} {r : List V → Hp → VK → Prop} {f : List D → Sto → R D} (hf : SndC K mg r f) (h1 : SndL K mg ta Wx (mL ms)) : SndE K mg (tCB r ta) Wx (mCall f ms) := by
  intro av σ e ρ H st Q s er h
  refine h1 av σ e ρ H st _ s er ((Post.bind h).imp ?_)
  rintro vs H1 ⟨ds, ρ1, st1, x1, s1, r1, q1⟩
  exact hf av _ ρ1 H1 st1 Q ds vs s1 r1 q1
end DX

/-! DxDa: == where empty dicts lie about. -/
set_option linter.all false
set_option maxRecDepth 100000
set_option Elab.async false
namespace DX
open PySem PySem.Spec PyProof.Rows L2
open PySem.SeqAt PySem.MeetsSeq
open PySem.AutoSeq1 (wpAny_loadPart')

theorem dq_none (l : Addr) (es : Array DictEntry) (n : Nat) (dd : Option Addr) (sl : Array (Option Value)) :
    Meets (Builtin.«dict.__eq__» ⟨[.ref l, .none], []⟩) (fun _ R s => s.heap.get? l = some { cls := .type "dict", dict := dd, data := .dict es n, slots := sl } ∧ R (.ok (.ret .notImplemented)) s) :=
  .of_wp fun prog w A R s h => by obtain ⟨hp, g, d, tk, os⟩ := s; obtain ⟨hl, h⟩ := h; have f1 := F.sub_NoneType_dict; wp_walk using wpAny_loadPart' hl; exact ⟨_, rfl, h⟩
theorem dq_bool (l : Addr) (es : Array DictEntry) (n : Nat) (dd : Option Addr) (sl : Array (Option Value)) (b : Bool) :
    Meets (Builtin.«dict.__eq__» ⟨[.ref l, .bool b], []⟩) (fun _ R s => s.heap.get? l = some { cls := .type "dict", dict := dd, data := .dict es n, slots := sl } ∧ R (.ok (.ret .notImplemented)) s) :=
  .of_wp fun prog w A R s h => by obtain ⟨hp, g, d, tk, os⟩ := s; obtain ⟨hl, h⟩ := h; have f1 := F.sub_bool_dict; wp_walk using wpAny_loadPart' hl; exact ⟨_, rfl, h⟩
theorem dq_int (l : Addr) (es : Array DictEntry) (n : Nat) (dd : Option Addr) (sl : Array (Option Value)) (b : Int) (u : Tok) :
    Meets (Builtin.«dict.__eq__» ⟨[.ref l, .int b u], []⟩) (fun _ R s => s.heap.get? l = some { cls := .type "dict", dict := dd, data := .dict es n, slots := sl } ∧ R (.ok (.ret .notImplemented)) s) :=
  .of_wp fun prog w A R s h => by obtain ⟨hp, g, d, tk, os⟩ := s; obtain ⟨hl, h⟩ := h; have f1 := F.sub_int_dict; wp_walk using wpAny_loadPart' hl; exact ⟨_, rfl, h⟩
theorem dq_str (l : Addr) (es : Array DictEntry) (n : Nat) (dd : Option Addr) (sl : Array (Option Value)) (b : Str) (u : Tok) :
    Meets (Builtin.«dict.__eq__» ⟨[.ref l, .str b u], []⟩) (fun _ R s => s.heap.get? l = some { cls := .type "dict", dict := dd, data := .dict es n, slots := sl } ∧ R (.ok (.ret .notImplemented)) s) :=
  .of_wp fun prog w A R s h => by obtain ⟨hp, g, d, tk, os⟩ := s; obtain ⟨hl, h⟩ := h; have f1 := F.sub_str_dict; wp_walk using wpAny_loadPart' hl; exact ⟨_, rfl, h⟩
theorem dq_list (l b : Addr) (es : Array DictEntry) (items2 : Array Value) (n n2 : Nat) (dd dd2 : Option Addr) (sl sl2 : Array (Option Value)) :
    Meets (Builtin.«dict.__eq__» ⟨[.ref l, .ref b], []⟩) (fun _ R s => s.heap.get? l = some { cls := .type "dict", dict := dd, data := .dict es n, slots := sl } ∧ s.heap.get? b = some { cls := .type "list", dict := dd2, data := .seq items2 n2, slots := sl2 } ∧ R (.ok (.ret .notImplemented)) s) :=
  .of_wp fun prog w A R s h => by obtain ⟨hp, g, d, tk, os⟩ := s; obtain ⟨hl, hb, h⟩ := h; have f1 := F.sub_list_dict; wp_walk using wpAny_loadPart' hl, wpAny_loadPart' hb; exact ⟨_, rfl, h⟩
theorem dq_tuple (l b : Addr) (es : Array DictEntry) (items2 : Array Value) (n n2 : Nat) (dd dd2 : Option Addr) (sl sl2 : Array (Option Value)) :
    Meets (Builtin.«dict.__eq__» ⟨[.ref l, .ref b], []⟩) (fun _ R s => s.heap.get? l = some { cls := .type "dict", dict := dd, data := .dict es n, slots := sl } ∧ s.heap.get? b = some { cls := .type "tuple", dict := dd2, data := .seq items2 n2, slots := sl2 } ∧ R (.ok (.ret .notImplemented)) s) :=
  .of_wp fun prog w A R s h => by obtain ⟨hp, g, d, tk, os⟩ := s; obtain ⟨hl, hb, h⟩ := h; have f1 := F.sub_tuple_dict; wp_walk using wpAny_loadPart' hl, wpAny_loadPart' hb; exact ⟨_, rfl, h⟩
theorem lq_dict (l b : Addr) (es : Array DictEntry) (items2 : Array Value) (n n2 : Nat) (dd dd2 : Option Addr) (sl sl2 : Array (Option Value)) :
    Meets (Builtin.«list.__eq__» ⟨[.ref b, .ref l], []⟩) (fun _ R s => s.heap.get? l = some { cls := .type "dict", dict := dd, data := .dict es n, slots := sl } ∧ s.heap.get? b = some { cls := .type "list", dict := dd2, data := .seq items2 n2, slots := sl2 } ∧ R (.ok (.ret .notImplemented)) s) :=
  .of_wp fun prog w A R s h => by obtain ⟨hp, g, d, tk, os⟩ := s; obtain ⟨hl, hb, h⟩ := h; have f1 := F.sub_dict_list; wp_walk using wpAny_loadPart' hl, wpAny_loadPart' hb; exact ⟨_, rfl, h⟩
theorem tq_dict (l b : Addr) (es : Array DictEntry) (items2 : Array Value) (n n2 : Nat) (dd dd2 : Option Addr) (sl sl2 : Array (Option Value)) :
    Meets (Builtin.«tuple.__eq__» ⟨[.ref b, .ref l], []⟩) (fun _ R s => s.heap.get? l = some { cls := .type "dict", dict := dd, data := .dict es n, slots := sl } ∧ s.heap.get? b = some { cls := .type "tuple", dict := dd2, data := .seq items2 n2, slots := sl2 } ∧ R (.ok (.ret .notImplemented)) s) :=
  .of_wp fun prog w A R s h => by obtain ⟨hp, g, d, tk, os⟩ := s; obtain ⟨hl, hb, h⟩ := h; have f1 := F.sub_dict_tuple; wp_walk using wpAny_loadPart' hl, wpAny_loadPart' hb; exact ⟨_, rfl, h⟩
theorem bq_dict (b : Bool) (l : Addr) (es : Array DictEntry) (n : Nat) (dd : Option Addr) (sl : Array (Option Value)) :
    Meets (Builtin.«int.__eq__» ⟨[.bool b, .ref l], []⟩) (fun _ R s => s.heap.get? l = some { cls := .type "dict", dict := dd, data := .dict es n, slots := sl } ∧ R (.ok (.ret .notImplemented)) s) :=
  .of_wp fun prog w A R s h => by obtain ⟨hp, g, d, tk, os⟩ := s; obtain ⟨hl, h⟩ := h; wp_walk using wpAny_loadPart' hl, wpAny_load hl; exact ⟨_, rfl, h⟩
theorem iq_dict (b : Int) (u : Tok) (l : Addr) (es : Array DictEntry) (n : Nat) (dd : Option Addr) (sl : Array (Option Value)) :
    Meets (Builtin.«int.__eq__» ⟨[.int b u, .ref l], []⟩) (fun _ R s => s.heap.get? l = some { cls := .type "dict", dict := dd, data := .dict es n, slots := sl } ∧ R (.ok (.ret .notImplemented)) s) :=
  .of_wp fun prog w A R s h => by obtain ⟨hp, g, d, tk, os⟩ := s; obtain ⟨hl, h⟩ := h; wp_walk using wpAny_loadPart' hl, wpAny_load hl; exact ⟨_, rfl, h⟩
theorem sq_dict (b : Str) (u : Tok) (l : Addr) (es : Array DictEntry) (n : Nat) (dd : Option Addr) (sl : Array (Option Value)) :
    Meets (Builtin.«str.__eq__» ⟨[.str b u, .ref l], []⟩) (fun _ R s => s.heap.get? l = some { cls := .type "dict", dict := dd, data := .dict es n, slots := sl } ∧ R (.ok (.ret .notImplemented)) s) :=
  .of_wp fun prog w A R s h => by obtain ⟨hp, g, d, tk, os⟩ := s; obtain ⟨hl, h⟩ := h; wp_walk using wpAny_loadPart' hl, wpAny_load hl; exact ⟨_, rfl, h⟩
end DX

/-! DxDb: data with empty dicts: what the heap holds of it, ==, in. -/
set_option linter.all false
set_option maxRecDepth 100000
set_option Elab.async false
namespace DX
open PySem PySem.Spec PyProof.Rows L2
open PySem.SeqAt PySem.MeetsSeq

section
variable {B : Around} {t : Shared} {d : Addr} {ob : Obj} {ents : Array DictEntry} {k : Nat}
/-- a text is no dict -/
theorem text_dict (x : Str) (u : Tok) (at_ : t.heap.get? d = some ob) (cls : ob.cls = .type "dict") (dat : ob.data = .dict ents k) (few : B.units < cLine) : EqAt B t (.str x u) (.ref d) false := by
  obtain ⟨c, dd, dt, sl⟩ := ob
  obtain rfl : c = .type "dict" := cls
  obtain rfl : dt = .dict ents k := dat
  intro prog w E Q goal
  have dictIs : t.TypeIs (.ref d) "dict" := ⟨_, at_, rfl⟩
  have away : isSame (.str x u) (.ref d) = pure false := rfl
  unfold eqBool
  refine wpAny_holding (wpAny_ite_split (fun z => absurd (eq_of_beq z) nofun) fun _ => wpAny_bind ?_)
  apply rc_eq_decline_or (k := false) (typeIs_str t x u) dictIs (by decide) F.sub_dict_str F.slot_str_eq F.slot_dict_eq_refl (h := wpAny_truthy_bool goal) (hr := .inr few)
  · exact fun _ q => call_meets F.slot_str_eq (typeIs_str t x u) F.entry_str_eq (F.args_str_eq_2 _ _) (sq_dict x u d ents k dd sl) ⟨at_, q⟩
  · exact fun _ q => call_meets F.slot_dict_eq_refl dictIs F.entry_dict_eq (F.args_dict_eq_2 _ _) (dq_str d ents k dd sl x u) ⟨at_, q⟩
  · exact fun _ q => wpAny_of_eq away q
/-- a tuple is no dict -/
theorem tuple_dict {l : Addr} {its : Array Value} (tup : t.heap.IsTuple l its) (at_ : t.heap.get? d = some ob) (cls : ob.cls = .type "dict") (dat : ob.data = .dict ents k) (few : B.units < cLine) : EqAt B t (.ref l) (.ref d) false := by
  obtain ⟨⟨c1, dd1, dt1, sl1⟩, at1, cls1, n1, dat1⟩ := tup
  obtain ⟨c, dd, dt, sl⟩ := ob
  obtain rfl : c = .type "dict" := cls
  obtain rfl : dt = .dict ents k := dat
  obtain rfl : c1 = .type "tuple" := cls1
  obtain rfl : dt1 = .seq its n1 := dat1
  have apart : l ≠ d := by rintro rfl; exact absurd (congrArg Obj.cls (Option.some.inj (at_.symm.trans at1))) (by simp)
  have dictIs : t.TypeIs (.ref d) "dict" := ⟨_, at_, rfl⟩
  have tupleIs : t.TypeIs (.ref l) "tuple" := ⟨_, at1, rfl⟩
  refine .of_refs apart fun prog w E Q goal => ?_
  apply rc_eq_decline_or (k := false) tupleIs dictIs (by decide) F.sub_dict_tuple F.slot_tuple_eq F.slot_dict_eq_refl (h := goal) (hr := .inr few)
  · exact fun _ q => call_meets F.slot_tuple_eq tupleIs F.entry_tuple_eq (F.args_tuple_eq_2 _ _) (tq_dict d l ents its k n1 dd dd1 sl sl1) ⟨at_, at1, q⟩
  · exact fun _ q => call_meets F.slot_dict_eq_refl dictIs F.entry_dict_eq (F.args_dict_eq_2 _ _) (dq_tuple d l ents its k n1 dd dd1 sl sl1) ⟨at_, at1, q⟩
  · exact fun _ q => wpAny_isSame_ref_other' apart at1 at_ (by simp) q
end
mutual
/-- texts, tuples of these -/
def stB : PyData → Bool
  | .str x => PyData.strOk x
  | .tuple xs => stBs xs
  | _ => false
def stBs : List PyData → Bool
  | [] => true
  | x :: xs => stB x && stBs xs
end
mutual
/-- data, empty dicts among it -/
def canE : PyData → Bool
  | .none | .bool _ | .int _ => true
  | .str x => PyData.strOk x
  | .list xs | .tuple xs => canEs xs
  | .dict kvs => kvs.isEmpty
def canEs : List PyData → Bool
  | [] => true
  | x :: xs => canE x && canEs xs
end
mutual
theorem stB_can : ∀ d : PyData, stB d = true → d.canLay0 = true
  | .str x, h => h
  | .tuple xs, h => stBs_can xs h
  | .none, h => nomatch h
  | .bool _, h => nomatch h
  | .int _, h => nomatch h
  | .list _, h => nomatch h
  | .dict _, h => nomatch h
theorem stBs_can : ∀ ds : List PyData, stBs ds = true → PyData.canLayAll0 ds = true
  | [], _ => rfl
  | x :: xs, h => by
    unfold stBs at h
    obtain ⟨h1, h2⟩ := Bool.and_eq_true_iff.mp h
    unfold PyData.canLayAll0
    rw [stB_can x h1, stBs_can xs h2]
    rfl
end
/-- an item of what is read -/
theorem item_read {h : Heap} : ∀ {xs : List PyData} {vs : List Value} {as : List Addr}, ReadsAll h vs xs as → ∀ {j : Nat} {v : Value}, vs[j]? = some v → ∃ x cs, xs[j]? = some x ∧ Reads h v x cs
  | [], _, _, .nil, _, _, e => nomatch e
  | x :: _, _, _, .cons r _, 0, _, e => ⟨x, _, rfl, by cases e; exact r⟩
  | _ :: _, _, _, .cons _ rs, j + 1, _, e => item_read rs (j := j) e
theorem stBs_at {xs : List PyData} (ok : stBs xs = true) : ∀ {j : Nat} {x : PyData}, xs[j]? = some x → stB x = true := by
  induction xs with
  | nil => intro j x e; cases e
  | cons y ys ih =>
    unfold stBs at ok
    obtain ⟨o1, o2⟩ := Bool.and_eq_true_iff.mp ok
    intro j x e
    cases j with
    | zero => cases e; exact o1
    | succ j => exact ih o2 e
theorem canEs_at {xs : List PyData} (ok : canEs xs = true) : ∀ {j : Nat} {x : PyData}, xs[j]? = some x → canE x = true := by
  induction xs with
  | nil => intro j x e; cases e
  | cons y ys ih =>
    unfold canEs at ok
    obtain ⟨o1, o2⟩ := Bool.and_eq_true_iff.mp ok
    intro j x e
    cases j with
    | zero => cases e; exact o1
    | succ j => exact ih o2 e
theorem depth_at {xs : List PyData} : ∀ {j : Nat} {x : PyData}, xs[j]? = some x → x.depth ≤ PyData.depthAll xs := by
  induction xs with
  | nil => intro j x e; cases e
  | cons y ys ih =>
    intro j x e
    unfold PyData.depthAll
    cases j with
    | zero => cases e; omega
    | succ j => have := ih (j := j) e; omega
section
variable {B : Around} {t : Shared} {b : Value} {db : PyData} {bs : List Addr}
theorem text_any (x : Str) (u : Tok) (rb : Reads t.heap b db bs) (few : B.units < cLine) : EqAt B t (.str x u) b (PyData.eqv (.str x) db) := by
  cases rb with
  | none => exact .str_none _ _
  | bool => exact .str_bool _ _ _
  | int => exact .str_int _ _ _ _
  | str => exact .str_str _ _ _ _
  | list q1 q2 q3 => exact .str_list _ _ ⟨_, q1, q2, _, q3⟩ few
  | tuple q1 q2 q3 => exact .str_tuple _ _ ⟨_, q1, q2, _, q3⟩ few
  | dict q1 q2 q3 => exact text_dict x u q1 q2 q3 few
theorem tuple_any {l : Addr} {o : Obj} {vs : Array Value} {m : Nat} {xs : List PyData} {as : List Addr} (p1 : t.heap.get? l = some o) (p2 : o.cls = .type "tuple") (p3 : o.data = .seq vs m) (p4 : ReadsAll t.heap vs.toList xs as) (can : PyData.canLayAll0 xs = true)
    (rb : Reads t.heap b db bs) (few : B.units < cLine) (deeper : ∀ (ys : List PyData) (j : Nat) (x y : PyData) (v w : Value) (cs ds : List Addr), db = .tuple ys → xs[j]? = some x → ys[j]? = some y → Reads t.heap v x cs → Reads t.heap w y ds → EqAt B.in1 t v w (PyData.eqv x y)) :
    EqAt B t (.ref l) b (PyData.eqv (.tuple xs) db) := by
  have tup : t.heap.IsTuple l vs := ⟨o, p1, p2, m, p3⟩
  cases rb with
  | none => exact .tuple_none tup few
  | bool => exact .tuple_bool _ tup few
  | int => exact .tuple_int _ _ tup few
  | str => exact .tuple_str _ _ tup few
  | list q1 q2 q3 => exact .tuple_list tup ⟨_, q1, q2, _, q3⟩ few
  | dict q1 q2 q3 => exact tuple_dict tup q1 q2 q3 few
  | @tuple l2 o2 vs2 m2 ys _ q1 q2 q3 q4 =>
    have z1 : xs.length = vs.size := by rw [← Array.length_toList]; exact (ReadsAll.length _ _ _ p4).symm
    have z2 : ys.length = vs2.size := by rw [← Array.length_toList]; exact (ReadsAll.length _ _ _ q4).symm
    show EqAt B t (.ref l) (.ref l2) (PyData.eqvAll xs ys)
    by_cases one : l = l2
    · subst one
      obtain rfl : xs = ys := PyData.tuple.inj (Reads.unique (.tuple xs) (.tuple ys) _ _ _ can (.tuple p1 p2 p3 p4) (.tuple q1 q2 q3 q4))
      rw [eqvAll_refl xs can]
      exact .same _
    · rw [← eqvAll_eq xs ys, z1, z2]
      refine .of_refs one (.tuples tup ⟨o2, q1, q2, m2, q3⟩ few fun j j1 j2 => ?_)
      obtain ⟨x, cs, x1, x2⟩ := item_read p4 (j := j) (v := vs[j]) (by rw [Array.getElem?_toList, Array.getElem?_eq_getElem j1])
      obtain ⟨y, ds, y1, y2⟩ := item_read q4 (j := j) (v := vs2[j]) (by rw [Array.getElem?_toList, Array.getElem?_eq_getElem j2])
      have both : pairEq xs ys j = PyData.eqv x y := by simp only [pairEq, List.getD_eq_getElem?_getD, x1, y1, Option.getD_some]
      rw [both]
      exact deeper ys j x y _ _ cs ds rfl x1 y1 x2 y2
end
/-- a text, a tuple of such, beside any data, by how deep this may be -/
theorem eqAtE : ∀ (n : Nat) (da db : PyData) (B : Around) (t : Shared) (a b : Value) (as bs : List Addr), db.depth ≤ n → Reads t.heap a da as → Reads t.heap b db bs → stB da = true → canE db = true → B.units + n < cLine → EqAt B t a b (PyData.eqv da db) := by
  intro n
  induction n with
  | zero =>
    intro da db B t a b as bs le ra rb ha hb few
    cases ra with
    | str x u => exact text_any x u rb few
    | tuple p1 p2 p3 p4 => exact tuple_any p1 p2 p3 p4 (stBs_can _ ha) rb few fun ys j x y v w cs ds e => by subst e; unfold PyData.depth at le; omega
    | _ => exact nomatch ha
  | succ n ih =>
    intro da db B t a b as bs le ra rb ha hb few
    cases ra with
    | str x u => exact text_any x u rb (by omega)
    | tuple p1 p2 p3 p4 =>
      refine tuple_any p1 p2 p3 p4 (stBs_can _ ha) rb (by omega) fun ys j x y v w cs ds e x1 y1 x2 y2 => ?_
      subst e
      exact ih x y B.in1 t v w cs ds (Nat.le_trans (depth_at y1) (by unfold PyData.depth at le; omega)) x2 y2 (stBs_at ha x1) (canEs_at hb y1) (by show B.units + 1 + n < cLine; omega)
    | _ => exact nomatch ha
end DX

/-! DxD: operations. -/
set_option linter.all false
set_option maxRecDepth 100000
set_option Elab.async false
namespace DX
open PySem PySem.Spec PyProof.Rows L2

/-! ### data -/
mutual
def pd : D → Option PyData
  | .non => some .none
  | .bl b => some (.bool b)
  | .int i => some (.int i)
  | .str x => some (.str x)
  | .tup xs => match pds xs with
    | some ds => some (.tuple ds)
    | none => none
  | .lst xs => match pds xs with
    | some ds => some (.list ds)
    | none => none
  | .edct => some (.dict [])
  | _ => none
def pds : List D → Option (List PyData)
  | [] => some []
  | x :: xs => match pd x, pds xs with
    | some d, some ds => some (d :: ds)
    | _, _ => none
end
/-- a value as it stands: an object of the store by its items -/
def flat (st : Sto) : D → D
  | .loc n => match st[n]? with
    | some (.lst xs) => .lst xs
    | _ => .loc n
  | d => d
def view (st : Sto) (d : D) : Option PyData := pd (flat st d)

section
variable {W : Wd} {ρ : List Addr} {H : Hp}
mutual
theorem Rel.dp : ∀ {d : D} {v : V} {p : PyData}, Rel W ρ H d v → pd d = some p → p.canLay0 = true → Dp W.K H v p
  | _, _, _, .non, e, _ => by cases e; exact .non
  | _, _, _, .bl b, e, _ => by cases e; exact .bl b
  | _, _, _, .int i, e, _ => by cases e; exact .int i
  | _, _, _, .str x, e, _ => by cases e; exact .str x
  | _, _, _, .tup (xs := xs) h n m t, e, c => by
    unfold pd at e
    cases q : pds xs with
    | none => rw [q] at e; cases e
    | some ds =>
      rw [q] at e; cases e
      exact .tup (.inl h) (Rels.dp t q (by simpa [PyData.canLay0] using c))
  | _, _, _, .tupK (xs := xs) h t, e, c => by
    unfold pd at e
    cases q : pds xs with
    | none => rw [q] at e; cases e
    | some ds =>
      rw [q] at e; cases e
      exact .tup (.inr h) (Rels.dp t q (by simpa [PyData.canLay0] using c))
  | _, _, _, .lst (xs := xs) h n m t, e, c => by
    unfold pd at e
    cases q : pds xs with
    | none => rw [q] at e; cases e
    | some ds =>
      rw [q] at e; cases e
      exact .lst (.inl h) (Rels.dp t q (by simpa [PyData.canLay0] using c))
  | _, _, _, .lstK (xs := xs) h t, e, c => by
    unfold pd at e
    cases q : pds xs with
    | none => rw [q] at e; cases e
    | some ds =>
      rw [q] at e; cases e
      exact .lst (.inr h) (Rels.dp t q (by simpa [PyData.canLay0] using c))
  | _, _, _, .edct _ _ _, e, c => by cases e; simp [PyData.canLay0] at c
  | _, _, _, .loc _, e, _ => by cases e
  | _, _, _, .glob _, e, _ => by cases e
  | _, _, _, .ty _, e, _ => by cases e
theorem Rels.dp : ∀ {ds : List D} {vs : List V} {ps : List PyData}, Rels W ρ H ds vs → pds ds = some ps → PyData.canLayAll0 ps = true → DpAll W.K H vs ps
  | _, _, _, .nil, e, _ => by cases e; exact .nil
  | _, _, _, .cons (d := d) (ds := ds) r t, e, c => by
    unfold pds at e
    cases q1 : pd d with
    | none => rw [q1] at e; cases e
    | some p =>
      cases q2 : pds ds with
      | none => rw [q1, q2] at e; cases e
      | some ps =>
        rw [q1, q2] at e; cases e
        have c' : p.canLay0 = true ∧ PyData.canLayAll0 ps = true := by simpa [PyData.canLayAll0] using c
        exact .cons (Rel.dp r q1 c'.1) (Rels.dp t q2 c'.2)
end
theorem Rel.view {st : Sto} (s : SR W ρ H st) {d : D} {v : V} {p : PyData} (r : Rel W ρ H d v) (e : view st d = some p) (c : p.canLay0 = true) : Dp W.K H v p := by
  cases r with
  | @loc n a h =>
    unfold DX.view flat at e
    cases q : st[n]? with
    | none => simp [q, pd] at e
    | some o =>
      cases o with
      | lst ys =>
        obtain ⟨vs, h1, t⟩ := s.at_ n a _ h q
        simp only [q] at e
        unfold pd at e
        cases z : pds ys with
        | none => rw [z] at e; cases e
        | some ds =>
          rw [z] at e; cases e
          exact .lst (.of h1) (t.dp z (by simpa [PyData.canLay0] using c))
      | dct _ => simp [q, pd] at e
      | ins _ _ => simp [q, pd] at e
      | rng _ _ => simp [q, pd] at e
  | non => exact Rel.dp (ρ := ρ) .non e c
  | bl b => exact Rel.dp (ρ := ρ) (.bl b) e c
  | int b => exact Rel.dp (ρ := ρ) (.int b) e c
  | str b => exact Rel.dp (ρ := ρ) (.str b) e c
  | tup a b m t => exact Rel.dp (.tup a b m t) e c
  | tupK a t => exact Rel.dp (.tupK a t) e c
  | lst a b m t => exact Rel.dp (.lst a b m t) e c
  | lstK a t => exact Rel.dp (.lstK a t) e c
  | edct a b m => exact Rel.dp (.edct a b m) e c
  | glob a => cases e
  | ty n => cases e
end

/-! ### == -/
def lay (p : PyData) : Bool := p.canLay0 && decide (p.depth ≤ 64)
/-- a list beside [], a tuple beside () -/
def emQ : PyData → PyData → Option Bool
  | .list ps, .list [] => some ps.isEmpty
  | .tuple ps, .tuple [] => some ps.isEmpty
  | _, _ => none
def eqB (a b : D) (st : Sto) : Option Bool :=
  match view st a, view st b with
  | some p, some q => if lay p && lay q then some (PyData.eqv p q) else emQ p q
  | _, _ => none
theorem eqB_dp {W : Wd} {ρ : List Addr} {H : Hp} {st : Sto} (s : SR W ρ H st) {a b : D} {x y : V} {k : Bool} (ra : Rel W ρ H a x) (rb : Rel W ρ H b y) (e : eqB a b st = some k) :
    (∃ p q, Dp W.K H x p ∧ Dp W.K H y q ∧ SeqAt.shaped p = true ∧ SeqAt.shaped q = true ∧ k = PyData.eqv p q) ∨ ∃ p q, view st a = some p ∧ view st b = some q ∧ emQ p q = some k := by
  unfold eqB at e
  split at e
  · rename_i p q hp hq
    split at e
    · rename_i h
      cases e
      obtain ⟨h1, h2⟩ := Bool.and_eq_true_iff.mp h
      exact .inl ⟨p, q, ra.view s hp (Bool.and_eq_true_iff.mp h1).1, rb.view s hq (Bool.and_eq_true_iff.mp h2).1, h1, h2, rfl⟩
    · exact .inr ⟨p, q, hp, hq, e⟩
  · cases e

/-- a list's items of which one is equal -/
def inB (a b : D) (st : Sto) : Option Bool :=
  match view st a, view st b with
  | some p, some (.list qs) => if lay p && lay (.list qs) then some (qs.any fun z => PyData.eqv z p) else none
  | some p, some (.tuple qs) => if lay p && lay (.tuple qs) then some (qs.any fun z => PyData.eqv z p) else none
  | _, _ => none

section
variable {X : Cx}
def rInT (K : PySem.W.Frag) (n : Bool) : R2 := fun x y H Q => ∃ d ds, Dp K H x d ∧ (Dp K H y (.list ds) ∧ SeqAt.shaped (.list ds) = true ∨ Dp K H y (.tuple ds) ∧ SeqAt.shaped (.tuple ds) = true) ∧ SeqAt.shaped d = true ∧ Q (.bl (if n then !(ds.any fun z => PyData.eqv z d) else ds.any fun z => PyData.eqv z d)) H
theorem room_in_tup {ds : List PyData} {d : PyData} {u : Nat} (sd : SeqAt.shaped d = true) (hu : u + 65 < cLine) : u + 1 + min (PyData.depthAll ds) d.depth < cLine := by
  have h := SeqAt.depth_of_shaped sd
  have h2 : min (PyData.depthAll ds) d.depth ≤ d.depth := Nat.min_le_right _ _
  omega
theorem op_inT (hu : X.A.units + 65 < cLine) : OpR X (compareOp .In) (rInT X.K false) := by
  intro pins s σ H x y v u Q I rx ry h
  obtain ⟨d, ds, hd, he, sd, q⟩ := h
  obtain ⟨as, r1⟩ := Dp.reads I d x v hd rx
  rcases he with ⟨he, se⟩ | ⟨he, se⟩
  · obtain ⟨bs, r2⟩ := Dp.reads I (.list ds) y u he ry
    exact SeqAt.in_list_reads r2 r1 (by simpa [PyData.canLay0] using SeqAt.canLay_of_shaped se) (SeqAt.canLay_of_shaped sd) (room_in_tup sd hu) ⟨.bl _, H, I, rfl, q⟩
  · obtain ⟨bs, r2⟩ := Dp.reads I (.tuple ds) y u he ry
    exact SeqAt.in_tuple_reads r2 r1 (by simpa [PyData.canLay0] using SeqAt.canLay_of_shaped se) (SeqAt.canLay_of_shaped sd) (room_in_tup sd hu) ⟨.bl _, H, I, rfl, q⟩
theorem op_notInT (hu : X.A.units + 65 < cLine) : OpR X (compareOp .NotIn) (rInT X.K true) := by
  intro pins s σ H x y v u Q I rx ry h
  obtain ⟨d, ds, hd, he, sd, q⟩ := h
  obtain ⟨as, r1⟩ := Dp.reads I d x v hd rx
  rcases he with ⟨he, se⟩ | ⟨he, se⟩
  · obtain ⟨bs, r2⟩ := Dp.reads I (.list ds) y u he ry
    exact SeqAt.notIn_list_reads r2 r1 (by simpa [PyData.canLay0] using SeqAt.canLay_of_shaped se) (SeqAt.canLay_of_shaped sd) (room_in_tup sd hu) ⟨.bl _, H, I, rfl, q⟩
  · obtain ⟨bs, r2⟩ := Dp.reads I (.tuple ds) y u he ry
    exact SeqAt.notIn_tuple_reads r2 r1 (by simpa [PyData.canLay0] using SeqAt.canLay_of_shaped se) (SeqAt.canLay_of_shaped sd) (room_in_tup sd hu) ⟨.bl _, H, I, rfl, q⟩
end
end DX

/-! DxDc: values with empty dicts, in the abstract heap; in, repr. -/
set_option linter.all false
set_option maxRecDepth 100000
set_option Elab.async false
namespace DX
open PySem PySem.Spec PyProof.Rows L2
open PySem.SeqAt

mutual
/-- data at a value, empty dicts among it -/
inductive De (K : PySem.W.Frag) (H : Hp) : V → PyData → Prop
  | non : De K H .non .none
  | bl (b : Bool) : De K H (.bl b) (.bool b)
  | int (i : Int) : De K H (.int i) (.int i)
  | str (x : Str) : De K H (.str x) (.str x)
  | lst {a : Addr} {xs : List V} {ds : List PyData} : SqL K H a xs → DeAll K H xs ds → De K H (.ref a) (.list ds)
  | tup {a : Addr} {xs : List V} {ds : List PyData} : SqT K H a xs → DeAll K H xs ds → De K H (.ref a) (.tuple ds)
  | dct {a : Addr} : H a = some (.dK []) → De K H (.ref a) (.dict [])
inductive DeAll (K : PySem.W.Frag) (H : Hp) : List V → List PyData → Prop
  | nil : DeAll K H [] []
  | cons {v : V} {vs : List V} {d : PyData} {ds : List PyData} : De K H v d → DeAll K H vs ds → DeAll K H (v :: vs) (d :: ds)
end
mutual
theorem Rel.de {W : Wd} {ρ : List Addr} {H : Hp} : ∀ {d : D} {v : V} {p : PyData}, Rel W ρ H d v → pd d = some p → De W.K H v p
  | _, _, _, .non, e => by cases e; exact .non
  | _, _, _, .bl b, e => by cases e; exact .bl b
  | _, _, _, .int i, e => by cases e; exact .int i
  | _, _, _, .str x, e => by cases e; exact .str x
  | _, _, _, .tup (xs := xs) h n m t, e => by
    unfold pd at e
    cases q : pds xs with
    | none => rw [q] at e; cases e
    | some ds => rw [q] at e; cases e; exact .tup (.inl h) (Rels.de t q)
  | _, _, _, .tupK (xs := xs) h t, e => by
    unfold pd at e
    cases q : pds xs with
    | none => rw [q] at e; cases e
    | some ds => rw [q] at e; cases e; exact .tup (.inr h) (Rels.de t q)
  | _, _, _, .lst (xs := xs) h n m t, e => by
    unfold pd at e
    cases q : pds xs with
    | none => rw [q] at e; cases e
    | some ds => rw [q] at e; cases e; exact .lst (.inl h) (Rels.de t q)
  | _, _, _, .lstK (xs := xs) h t, e => by
    unfold pd at e
    cases q : pds xs with
    | none => rw [q] at e; cases e
    | some ds => rw [q] at e; cases e; exact .lst (.inr h) (Rels.de t q)
  | _, _, _, .edct h n m, e => by cases e; exact .dct h
  | _, _, _, .loc h, e => nomatch e
  | _, _, _, .glob h, e => nomatch e
  | _, _, _, .ty n, e => nomatch e
theorem Rels.de {W : Wd} {ρ : List Addr} {H : Hp} : ∀ {ds : List D} {vs : List V} {ps : List PyData}, Rels W ρ H ds vs → pds ds = some ps → DeAll W.K H vs ps
  | _, _, _, .nil, e => by cases e; exact .nil
  | _, _, _, .cons (d := d) (ds := ds) r t, e => by
    unfold pds at e
    split at e
    · rename_i p ps h1 h2
      cases e
      exact .cons (Rel.de r h1) (Rels.de t h2)
    · cases e
end
theorem Rel.viewE {W : Wd} {ρ : List Addr} {H : Hp} {st : Sto} (s : SR W ρ H st) {d : D} {v : V} {p : PyData} (r : Rel W ρ H d v) (e : DX.view st d = some p) : De W.K H v p := by
  unfold DX.view flat at e
  cases r with
  | @loc n a h =>
    dsimp only at e
    cases q : st[n]? with
    | none => rw [q] at e; cases e
    | some o =>
      cases o with
      | lst xs =>
        rw [q] at e
        dsimp only at e
        obtain ⟨vs, h1, t⟩ := s.at_ n a _ h q
        unfold pd at e
        cases z : pds xs with
        | none => rw [z] at e; cases e
        | some ds => rw [z] at e; cases e; exact .lst (.inl (.inl h1)) (Rels.de t z)
      | dct kvs => rw [q] at e; cases e
      | ins c fs => rw [q] at e; cases e
      | rng c fs => rw [q] at e; cases e
  | non => cases e; exact .non
  | bl b => cases e; exact .bl b
  | int i => cases e; exact .int i
  | str x => cases e; exact .str x
  | tup h n m t => exact Rel.de (W := W) (ρ := ρ) (.tup h n m t) e
  | tupK h t => exact Rel.de (W := W) (ρ := ρ) (.tupK h t) e
  | lst h n m t => exact Rel.de (W := W) (ρ := ρ) (.lst h n m t) e
  | lstK h t => exact Rel.de (W := W) (ρ := ρ) (.lstK h t) e
  | edct h n m => cases e; exact .dct h
  | glob h => cases e
  | ty n => cases e

section
variable {X : Cx} {pins : List (Addr × Obj)} {σ : L2.St} {H : Hp} {s : Shared}
/-- no list stands where the import system's dict does -/
def SysOk (X : Cx) : Prop := ∃ o, X.K.lookup sysModules = some o ∧ o.cls = .type "dict"
theorem list_nsys (hS : SysOk X) (I : Inv X pins σ H s) {a : Addr} {o : Obj} (h : s.heap.get? a = some o) (hc : o.cls = .type "list") : a ≠ sysModules := by
  rintro rfl
  obtain ⟨u, h1, h2⟩ := hS
  have e := I.kIn _ _ h1
  rw [h] at e
  cases e
  rw [hc] at h2
  exact absurd h2 (by simp)
mutual
theorem De.reads (I : Inv X pins σ H s) : ∀ (d : PyData) (v : V) (u : Value), De X.K H v d → RelV v u → ∃ as, Reads s.heap u d as ∧ (SysOk X → sysModules ∉ as)
  | .none, _, _, h, r => by
    cases h; cases r
    exact ⟨_, Reads.none, fun _ z => nomatch z⟩
  | .bool b, _, _, h, r => by
    cases h; cases r
    exact ⟨_, Reads.bool b, fun _ z => nomatch z⟩
  | .int i, _, _, h, r => by
    cases h
    obtain ⟨t, rfl⟩ := r
    exact ⟨_, Reads.int i t, fun _ z => nomatch z⟩
  | .str x, _, _, h, r => by
    cases h
    obtain ⟨t, rfl⟩ := r
    exact ⟨_, Reads.str x t, fun _ z => nomatch z⟩
  | .list ds, _, _, h, r => by
    cases h with
    | lst hs ha =>
      cases r
      obtain ⟨its, rv, ⟨o, n, ho, hc, hn, hd⟩, _⟩ := I.list hs
      obtain ⟨as, hr, hm⟩ := De.readsAll I ds _ its ha rv
      exact ⟨_, Reads.list ho hc hd hr, fun hS z => (List.mem_cons.mp z).elim (fun e => list_nsys hS I ho hc e.symm) (hm hS)⟩
  | .tuple ds, _, _, h, r => by
    cases h with
    | tup hs ha =>
      cases r
      obtain ⟨its, rv, ⟨o, ho, hc, n, hd⟩, _⟩ := I.tuple hs
      obtain ⟨as, hr, hm⟩ := De.readsAll I ds _ its ha rv
      exact ⟨_, Reads.tuple ho hc hd hr, hm⟩
  | .dict _, _, _, h, r => by
    cases h with
    | dct e =>
      cases r
      obtain ⟨_, hx, vs, kv, hd⟩ := dk_of I.hok e
      cases kv
      obtain ⟨o, es, ep, ho, hc, hda, _, pr, _⟩ := hd
      have e0 : es.toList = [] := List.length_eq_zero_iff.mp pr.length
      refine ⟨_, Reads.dict (kvs := []) (as := []) (bs := []) ho hc.1 hda (by rw [e0]; exact .nil) (by rw [e0]; exact .nil), fun _ z => ?_⟩
      simp at z
      exact absurd z.symm (by simpa using hx)
theorem De.readsAll (I : Inv X pins σ H s) : ∀ (ds : List PyData) (vs : List V) (us : List Value), DeAll X.K H vs ds → Vals vs us → ∃ as, ReadsAll s.heap us ds as ∧ (SysOk X → sysModules ∉ as)
  | [], _, _, h, r => by
    cases h; cases r
    exact ⟨_, ReadsAll.nil, fun _ z => nomatch z⟩
  | d :: ds, _, _, h, r => by
    cases h with
    | cons h1 h2 =>
      cases r with
      | cons r1 r2 =>
        obtain ⟨as, q1, m1⟩ := De.reads I d _ _ h1 r1
        obtain ⟨bs, q2, m2⟩ := De.readsAll I ds _ _ h2 r2
        exact ⟨_, ReadsAll.cons q1 q2, fun hS z => (List.mem_append.mp z).elim (m1 hS) (m2 hS)⟩
end
/-! ### in, == , repr -/
def okE (p : PyData) : Bool := canE p && decide (p.depth ≤ 64)
/-- x in y: y's items texts or tuples of these, x any data -/
def rInE (K : PySem.W.Frag) (n : Bool) : R2 := fun x y H Q => ∃ d ds, De K H x d ∧ (De K H y (.list ds) ∨ De K H y (.tuple ds)) ∧ okE d = true ∧ stBs ds = true ∧ Q (.bl (if n then !(ds.any fun z => PyData.eqv z d) else ds.any fun z => PyData.eqv z d)) H
theorem stBs_mem : ∀ {ds : List PyData} {d : PyData}, stBs ds = true → d ∈ ds → stB d = true
  | x :: xs, d, h, hm => by
    unfold stBs at h
    obtain ⟨h1, h2⟩ := Bool.and_eq_true_iff.mp h
    rcases List.mem_cons.mp hm with rfl | hm
    · exact h1
    · exact stBs_mem h2 hm
theorem reads_memE {h : Heap} : ∀ (xs : List PyData) (vs : List Value) (as : List Addr), stBs xs = true → ReadsAll h vs xs as → ∀ y ∈ vs, ∃ d bs, Reads h y d bs ∧ stB d = true
  | [], _, _, _, r, y, hy => by cases r; cases hy
  | x :: xs, _, _, hc, r, y, hy => by
    unfold stBs at hc
    obtain ⟨h1, h2⟩ := Bool.and_eq_true_iff.mp hc
    cases r with
    | cons r1 r2 =>
      rcases List.mem_cons.mp hy with rfl | hy
      · exact ⟨x, _, r1, h1⟩
      · exact reads_memE xs _ _ h2 r2 y hy
theorem items_eqE {A : Around} {s : Shared} {vs : Array Value} {xs : List PyData} {as bs : List Addr} {x : Value} {d : PyData} (rs : ReadsAll s.heap vs.toList xs as) (rx : Reads s.heap x d bs) (hxs : stBs xs = true) (hd : okE d = true)
    (hu : A.units + 65 < cLine) : ∀ y, y ∈ vs → EqAt A.in1 s y x (PyData.eqv (readOf s.heap y) d) := fun y hy => by
  obtain ⟨dy, cs, ry, hcy⟩ := reads_memE xs _ _ hxs rs y (by simpa using hy)
  rw [readOf_eq (stB_can dy hcy) ry]
  unfold okE at hd
  rw [Bool.and_eq_true, decide_eq_true_eq] at hd
  exact eqAtE 64 dy d A.in1 s y x _ _ hd.2 ry rx hcy hd.1 (by show A.units + 1 + 64 < cLine; omega)
theorem op_inE (hu : X.A.units + 65 < cLine) : OpR X (compareOp .In) (rInE X.K false) := by
  intro pins s σ H x y v u Q I rx ry h
  obtain ⟨d, ds, hd, he, sd, sc, q⟩ := h
  obtain ⟨as, r1, _⟩ := De.reads I d x v hd rx
  have cc := stBs_can ds sc
  rcases he with he | he
  · obtain ⟨bs, r2, _⟩ := De.reads I (.list ds) y u he ry
    cases r2 with
    | list h1 h2 h3 h4 => exact in_listAt _ ⟨_, h1, h2, _, h3⟩ (items_eqE h4 r1 sc sd hu) (by rw [any_by_data h4 cc]; exact ⟨.bl _, H, I, rfl, q⟩)
  · obtain ⟨bs, r2, _⟩ := De.reads I (.tuple ds) y u he ry
    cases r2 with
    | tuple h1 h2 h3 h4 => exact in_tupleAt _ ⟨_, h1, h2, _, h3⟩ (items_eqE h4 r1 sc sd hu) (by rw [any_by_data h4 cc]; exact ⟨.bl _, H, I, rfl, q⟩)
theorem op_notInE (hu : X.A.units + 65 < cLine) : OpR X (compareOp .NotIn) (rInE X.K true) := by
  intro pins s σ H x y v u Q I rx ry h
  obtain ⟨d, ds, hd, he, sd, sc, q⟩ := h
  obtain ⟨as, r1, _⟩ := De.reads I d x v hd rx
  have cc := stBs_can ds sc
  rcases he with he | he
  · obtain ⟨bs, r2, _⟩ := De.reads I (.list ds) y u he ry
    cases r2 with
    | list h1 h2 h3 h4 => exact notIn_listAt _ ⟨_, h1, h2, _, h3⟩ (items_eqE h4 r1 sc sd hu) (by rw [any_by_data h4 cc]; exact ⟨.bl _, H, I, rfl, q⟩)
  · obtain ⟨bs, r2, _⟩ := De.reads I (.tuple ds) y u he ry
    cases r2 with
    | tuple h1 h2 h3 h4 => exact notIn_tupleAt _ ⟨_, h1, h2, _, h3⟩ (items_eqE h4 r1 sc sd hu) (by rw [any_by_data h4 cc]; exact ⟨.bl _, H, I, rfl, q⟩)
/-! ### what is shown, empty dicts among it -/
/-- its text can be told beneath others -/
def Told (X : Cx) (h : Heap) (p : PyData) (u : Value) : Prop := (∃ as, Reads h u p as) ∧ ∃ bs, ReadAtMost h p.depth bs ∧ ReprK X.prog X.w bs h p.depth u p.shown
def ToldAll (X : Cx) (h : Heap) (ps : List PyData) (us : List Value) : Prop := (∃ as, ReadsAll h us ps as) ∧ ∃ bs, ReadAtMost h (PyData.depthAll ps) bs ∧ ReprAllK X.prog X.w bs h (PyData.depthAll ps) us (PyData.shownAll ps)
theorem no_addr (h : Heap) (n : Nat) : ReadAtMost h n [] := fun b z => nomatch z
theorem told_list {h : Heap} {a : Addr} {o : Obj} {vs : Array Value} {n : Nat} {ps : List PyData} (ho : h.get? a = some o) (hc : o.cls = .type "list") (hd : o.data = .seq vs n) (t : ToldAll X h ps vs.toList) : Told X h (.list ps) (.ref a) := by
  obtain ⟨⟨as, rd⟩, bs, am, all⟩ := t
  have whole := Reads.list ho hc hd rd
  refine ⟨⟨_, whole⟩, a :: bs, am.cons (d := .list ps) whole (Nat.le_succ _), ?_⟩
  show ReprK X.prog X.w (a :: bs) h (PyData.depthAll ps + 1) (.ref a) (listText (PyData.shownAll ps))
  have out : a ∉ bs := not_mem_of_deeper (n := PyData.depthAll ps) whole (Nat.lt_succ_self _) am
  obtain ⟨l⟩ := vs
  cases l with
  | cons v l => exact .list ho hc hd out (by simpa using all.length_eq) fun i y z => all.item i y (by simpa using z)
  | nil =>
    cases (show ReadsAll h [] ps as from rd)
    exact .listEmpty ho hc hd
theorem told_tuple {h : Heap} {a : Addr} {o : Obj} {vs : Array Value} {n : Nat} {ps : List PyData} (ho : h.get? a = some o) (hc : o.cls = .type "tuple") (hd : o.data = .seq vs n) (t : ToldAll X h ps vs.toList) : Told X h (.tuple ps) (.ref a) := by
  obtain ⟨⟨as, rd⟩, bs, am, all⟩ := t
  have whole := Reads.tuple ho hc hd rd
  exact ⟨⟨_, whole⟩, a :: bs, am.cons (d := .tuple ps) whole (Nat.le_succ _), .tuple ho hc hd (not_mem_of_deeper (n := PyData.depthAll ps) whole (Nat.lt_succ_self _) am) all⟩
theorem told_dict {h : Heap} {a : Addr} {o : Obj} {es : Array DictEntry} {n : Nat} (ho : h.get? a = some o) (hc : o.cls = .type "dict") (hd : o.data = .dict es n) (e0 : es.toList = []) (hs : (a == sysModules) = false) : Told X h (.dict []) (.ref a) := by
  have whole : Reads h (.ref a) (.dict []) _ := Reads.dict (as := []) (bs := []) ho hc hd (by rw [e0]; exact .nil) (by rw [e0]; exact .nil)
  refine ⟨⟨_, whole⟩, [a], (no_addr h 0).cons (d := .dict []) whole (Nat.zero_le _), ?_⟩
  exact ReprK.dict (as := []) (d := 0) (ps := []) ho hc hd hs (fun z => nomatch z) (by rw [e0]; exact .of_two [] [] [] .nil .nil)
mutual
theorem De.told (I : Inv X pins σ H s) : ∀ (p : PyData) (v : V) (u : Value), De X.K H v p → RelV v u → p.showable = true → p.shown.length ≤ sizeLine → Told X s.heap p u
  | .none, _, _, h, r, _, _ => by
    cases h; cases r
    exact ⟨⟨_, .none⟩, [], no_addr _ _, .of_is .none _ _ _⟩
  | .bool b, _, _, h, r, _, _ => by
    cases h; cases r
    exact ⟨⟨_, .bool b⟩, [], no_addr _ _, .of_is (.bool b) _ _ _⟩
  | .int i, _, _, h, r, q, _ => by
    cases h
    obtain ⟨t, rfl⟩ := r
    exact ⟨⟨_, .int i t⟩, [], no_addr _ _, .of_is (.int t (by simpa [PyData.showable] using q)) _ _ _⟩
  | .str x, _, _, h, r, _, z => by
    cases h
    obtain ⟨t, rfl⟩ := r
    exact ⟨⟨_, .str x t⟩, [], no_addr _ _, .of_is (.str x t (by simpa only [PyData.shown] using z)) _ _ _⟩
  | .list ps, _, _, h, r, q, z => by
    cases h with
    | lst at_ all =>
      cases r
      obtain ⟨its, rv, ⟨o, n, ho, hc, _, hd⟩, _⟩ := I.list at_
      exact told_list ho hc hd (De.toldAll I ps _ its all rv (by simpa [PyData.showable] using q) fun t ht => Nat.le_trans (listText_mem_le ht) (by simpa only [PyData.shown] using z))
  | .tuple ps, _, _, h, r, q, z => by
    cases h with
    | tup at_ all =>
      cases r
      obtain ⟨its, rv, ⟨o, ho, hc, n, hd⟩, _⟩ := I.tuple at_
      exact told_tuple ho hc hd (De.toldAll I ps _ its all rv (by simpa [PyData.showable] using q) fun t ht => Nat.le_trans (tupleText_mem_le ht) (by simpa only [PyData.shown] using z))
  | .dict _, _, _, h, r, _, _ => by
    cases h with
    | dct e =>
      cases r
      obtain ⟨_, hx, vs, kv, hd⟩ := dk_of I.hok e
      cases kv
      obtain ⟨o, es, ep, ho, hc, hda, _, pr, _⟩ := hd
      exact told_dict ho hc.1 hda (List.length_eq_zero_iff.mp pr.length) hx
theorem De.toldAll (I : Inv X pins σ H s) : ∀ (ps : List PyData) (vs : List V) (us : List Value), DeAll X.K H vs ps → Vals vs us → PyData.showableAll ps = true → (∀ t ∈ PyData.shownAll ps, t.length ≤ sizeLine) → ToldAll X s.heap ps us
  | [], _, _, h, r, _, _ => by
    cases h; cases r
    exact ⟨⟨_, .nil⟩, [], no_addr _ _, .nil⟩
  | p :: ps, _, _, h, r, q, z => by
    obtain ⟨q1, q2⟩ : p.showable = true ∧ PyData.showableAll ps = true := by simpa [PyData.showableAll] using q
    cases h with
    | cons h1 h2 =>
      cases r with
      | cons r1 r2 =>
        have mem1 : p.shown ∈ PyData.shownAll (p :: ps) := by unfold PyData.shownAll; exact List.mem_cons_self
        have mem2 : ∀ t ∈ PyData.shownAll ps, t ∈ PyData.shownAll (p :: ps) := fun t ht => by unfold PyData.shownAll; exact List.mem_cons_of_mem _ ht
        obtain ⟨⟨as1, rd1⟩, bs1, am1, k1⟩ := De.told I p _ _ h1 r1 q1 (z _ mem1)
        obtain ⟨⟨as2, rd2⟩, bs2, am2, k2⟩ := De.toldAll I ps _ _ h2 r2 q2 fun t ht => z t (mem2 t ht)
        have le1 : p.depth ≤ PyData.depthAll (p :: ps) := by unfold PyData.depthAll; omega
        have le2 : PyData.depthAll ps ≤ PyData.depthAll (p :: ps) := by conv => rhs; unfold PyData.depthAll
                                                                        omega
        refine ⟨⟨_, .cons rd1 rd2⟩, bs1 ++ bs2, (am1.mono le1).append (am2.mono le2), ?_⟩
        have out := ReprAllK.cons ((k1.more fun b hb => List.mem_append_left bs2 hb).level_le le1) (k2.more_le (fun b hb => List.mem_append_right bs1 hb) le2)
        unfold PyData.shownAll
        exact out
end
def okShow (p : PyData) : Bool := canE p && p.showable && decide (p.depth ≤ 64) && decide (p.shown.length ≤ sizeLine)
def rReprE (K : PySem.W.Frag) : List V → Hp → VK → Prop := fun xs H Q => ∃ v p, xs = [v] ∧ De K H v p ∧ okShow p = true ∧ Q (.str p.shown) H
theorem call_reprE (fr : Free X.A) (hu : X.A.units + 70 < cLine) : CallR X (.builtin "repr") (rReprE X.K) := by
  intro pins s σ H xs us Q I r h
  obtain ⟨v, p, rfl, hd, ok, q⟩ := h
  obtain ⟨u, rfl, rx⟩ := r.one
  unfold okShow at ok
  simp only [Bool.and_eq_true, decide_eq_true_eq] at ok
  obtain ⟨⟨⟨_, sh⟩, dp⟩, len⟩ := ok
  have same : ∀ b o, s.heap.get? b = some o → s.heap.get? b = some o := fun _ _ e => e
  cases hd with
  | non => cases rx; exact PySem.P.repr_of_none ⟨.str _, H, I.tok _, ⟨_, rfl⟩, by simpa only [PyData.shown] using q⟩
  | bl b => cases rx; exact PySem.P.repr_of_bool ⟨.str _, H, I.tok _, ⟨_, rfl⟩, by simpa only [PyData.shown] using q⟩
  | int i =>
    obtain ⟨t, rfl⟩ := rx
    exact PySem.P.repr_of_int (by simpa [PyData.showable] using sh) ⟨.str _, H, I.tok _, ⟨_, rfl⟩, by simpa only [PyData.shown] using q⟩
  | str x =>
    obtain ⟨t, rfl⟩ := rx
    exact PySem.P.repr_of_str (hsz := by simpa only [PyData.shown] using len) ⟨.str _, H, I.tok _, ⟨_, rfl⟩, by simpa only [PyData.shown] using q⟩
  | @lst a xs ps at_ all =>
    cases rx
    obtain ⟨its, rv, ⟨o, n, ho, hc, _, hda⟩, _⟩ := I.list at_
    have len' : (listText (PyData.shownAll ps)).length ≤ sizeLine := by simpa only [PyData.shown] using len
    have room : X.A.in1.units + (PyData.depthAll ps + 1) < cLine := by
      show X.A.units + 1 + (PyData.depthAll ps + 1) < cLine
      have : PyData.depthAll ps + 1 ≤ 64 := dp
      omega
    obtain ⟨⟨as, rd⟩, bs, am, ks⟩ := De.toldAll I ps _ its all rv (by simpa [PyData.showable] using sh) fun t ht => Nat.le_trans (listText_mem_le ht) len'
    have out : a ∉ bs := not_mem_of_deeper (n := PyData.depthAll ps) (Reads.list ho hc hda rd) (Nat.lt_succ_self _) am
    refine call_repr_slot (T := "list") (idr := "list.__repr__") (by omega) ⟨o, ho, hc⟩ F.slot_list_repr.toG ?_
    cases its with
    | nil =>
      cases rd
      exact call_list_repr_empty ⟨o, ho, hc⟩ ho hda ⟨_, _, rfl, .str _, H, I.tok _, ⟨_, rfl⟩, q⟩
    | cons y l => exact call_list_reprK ho hc hda out (by simpa using ks.length_eq) (fun i y z => ks.item i y (by simpa using z)) fr (fun b _ => Clear.nil b) room same (fun h' t tk k => ⟨_, _, rfl, .str _, H, I.kept (h' := h') (t' := tk) k, ⟨_, rfl⟩, q⟩) len'
  | @tup a xs ps at_ all =>
    cases rx
    obtain ⟨its, rv, ⟨o, ho, hc, n, hda⟩, _⟩ := I.tuple at_
    have len' : (tupleText (PyData.shownAll ps)).length ≤ sizeLine := by simpa only [PyData.shown] using len
    have room : X.A.in1.units + (PyData.depthAll ps + 1) < cLine := by
      show X.A.units + 1 + (PyData.depthAll ps + 1) < cLine
      have : PyData.depthAll ps + 1 ≤ 64 := dp
      omega
    obtain ⟨⟨as, rd⟩, bs, am, ks⟩ := De.toldAll I ps _ its all rv (by simpa [PyData.showable] using sh) fun t ht => Nat.le_trans (tupleText_mem_le ht) len'
    have out : a ∉ bs := not_mem_of_deeper (n := PyData.depthAll ps) (Reads.tuple ho hc hda rd) (Nat.lt_succ_self _) am
    refine call_repr_slot (T := "tuple") (idr := "tuple.__repr__") (by omega) ⟨o, ho, hc⟩ F.slot_tuple_repr ?_
    exact call_tuple_reprK ho hc hda out ks fr (fun b _ => Clear.nil b) room same (fun h' t tk k => ⟨_, _, rfl, .str _, H, I.kept (h' := h') (t' := tk) k, ⟨_, rfl⟩, q⟩) len'
  | @dct a e =>
    cases rx
    obtain ⟨_, hx, vs, kv, hdd⟩ := dk_of I.hok e
    cases kv
    obtain ⟨o, es, ep, ho, hc, hda, _, pr, _⟩ := hdd
    have e0 : es.toList = [] := List.length_eq_zero_iff.mp pr.length
    refine call_repr_slot (T := "dict") (idr := "dict.__repr__") (by omega) ⟨o, ho, hc.1⟩ F.slot_dict_repr ?_
    exact call_dict_reprK (as := []) (d := 0) (ps := []) ho hc.1 hda hx (fun z => nomatch z) (by rw [e0]; exact .of_two [] [] [] .nil .nil) fr (fun b _ => Clear.nil b) (by show X.A.units + 1 + (0 + 1) < cLine; omega) same (fun h' t tk k => ⟨_, _, rfl, .str _, H, I.kept (h' := h') (t' := tk) k, ⟨_, rfl⟩, q⟩) (by decide)
end
end DX

/-! DxDd: comparisons. -/
set_option linter.all false
set_option maxRecDepth 100000
set_option Elab.async false
namespace DX
open PySem PySem.Spec PyProof.Rows L2
/-! ### comparisons -/
def bI : CmpOp → Option (Int → Int → Bool)
  | .Lt => some fun i j => decide (i < j)
  | .LtE => some fun i j => decide (i ≤ j)
  | .Gt => some fun i j => decide (j < i)
  | .GtE => some fun i j => decide (j ≤ i)
  | _ => none
def isNonB : D → Bool
  | .non => true
  | _ => false
/-- in, where y's items are texts, tuples of these: x may have empty dicts about -/
def inE (a b : D) (st : Sto) : Option Bool :=
  match view st a, view st b with
  | some p, some (.list qs) => if okE p && stBs qs then some (qs.any fun z => PyData.eqv z p) else inB a b st
  | some p, some (.tuple qs) => if okE p && stBs qs then some (qs.any fun z => PyData.eqv z p) else inB a b st
  | _, _ => none
theorem inE_dp {W : Wd} {ρ : List Addr} {H : Hp} {st : Sto} (s : SR W ρ H st) {a b : D} {x y : V} {k : Bool} (ra : Rel W ρ H a x) (rb : Rel W ρ H b y) (e : inE a b st = some k) :
    inB a b st = some k ∨ ∃ d ds, De W.K H x d ∧ (De W.K H y (.list ds) ∨ De W.K H y (.tuple ds)) ∧ okE d = true ∧ stBs ds = true ∧ k = ds.any fun z => PyData.eqv z d := by
  unfold inE at e
  split at e
  · rename_i p qs hp hq
    split at e
    · rename_i z
      obtain ⟨h1, h2⟩ := Bool.and_eq_true_iff.mp z
      cases e
      exact .inr ⟨p, qs, ra.viewE s hp, .inl (rb.viewE s hq), h1, h2, rfl⟩
    · exact .inl e
  · rename_i p qs hp hq
    split at e
    · rename_i z
      obtain ⟨h1, h2⟩ := Bool.and_eq_true_iff.mp z
      cases e
      exact .inr ⟨p, qs, ra.viewE s hp, .inr (rb.viewE s hq), h1, h2, rfl⟩
    · exact .inl e
  · cases e
def cmpB (op : CmpOp) (a b : D) (st : Sto) : Option Bool :=
  match op with
  | .Eq => eqB a b st
  | .NotEq => (eqB a b st).map (!·)
  | .In => inE a b st
  | .NotIn => (inE a b st).map (!·)
  | .Is => match b with
    | .non => some (isNonB a)
    | .bl d => match a with
      | .bl c => some (c == d)
      | _ => none
    | _ => none
  | .IsNot => match b with
    | .non => some (!isNonB a)
    | .bl d => match a with
      | .bl c => some (c != d)
      | _ => none
    | _ => none
  | op => match bI op, a, b with
    | some f, .int i, .int j => some (f i j)
    | _, _, _ => none
def cmpD (op : CmpOp) (a b : D) (st : Sto) : R D := R.of ((cmpB op a b st).map .bl) st

/-- a list beside [], a tuple beside () -/
def rEqN (K : PySem.W.Frag) (n : Bool) : R2 := fun x y H Q => ∃ ds, ((De K H x (.list ds) ∧ De K H y (.list [])) ∨ (De K H x (.tuple ds) ∧ De K H y (.tuple []))) ∧ Q (.bl (if n then !ds.isEmpty else ds.isEmpty)) H
theorem emQ_of {W : Wd} {ρ : List Addr} {H : Hp} {st : Sto} (s : SR W ρ H st) {a b : D} {x y : V} {k : Bool} {p q : PyData} (ra : Rel W ρ H a x) (rb : Rel W ρ H b y) (hp : view st a = some p) (hq : view st b = some q) (e : emQ p q = some k) :
    ∃ ds, ((De W.K H x (.list ds) ∧ De W.K H y (.list [])) ∨ (De W.K H x (.tuple ds) ∧ De W.K H y (.tuple []))) ∧ k = ds.isEmpty := by
  unfold emQ at e
  split at e
  · cases e; exact ⟨_, .inl ⟨ra.viewE s hp, rb.viewE s hq⟩, rfl⟩
  · cases e; exact ⟨_, .inr ⟨ra.viewE s hp, rb.viewE s hq⟩, rfl⟩
  · cases e
theorem isE_size {ds : List PyData} {vs : Array Value} (h : vs.toList.length = ds.length) : ds.isEmpty = (vs.size == 0) := by
  rw [Array.length_toList] at h
  rw [h]
  cases ds <;> rfl
section
variable {X : Cx}
theorem op_eqN (hu : X.A.units < cLine) : OpR X (compareOp .Eq) (rEqN X.K false) := by
  intro pins s σ H x y v u Q I rx ry h
  obtain ⟨ds, hd, q⟩ := h
  rcases hd with ⟨hd, he⟩ | ⟨hd, he⟩
  · obtain ⟨as, r1, _⟩ := De.reads I _ x v hd rx
    obtain ⟨bs, r2, _⟩ := De.reads I _ y u he ry
    cases r1 with
    | @list _ _ vs _ _ _ h1 h2 h3 h4 =>
    cases r2 with
    | @list _ _ ws _ _ _ g1 g2 g3 g4 =>
      have l1 := isE_size (SeqAt.ReadsAll.length _ _ _ h4)
      have l2 : ws.size = 0 := by have := SeqAt.ReadsAll.length _ _ _ g4; rw [Array.length_toList] at this; exact this
      by_cases c : vs.size = 0
      · refine SeqAt.eq_listAt (e := fun _ => true) ⟨_, h1, h2, _, h3⟩ ⟨_, g1, g2, _, g3⟩ (by rw [c, l2]) hu (fun j h _ => by omega) ?_
        rw [c] at l1 ⊢
        rw [l1] at q
        exact ⟨.bl _, H, I, rfl, q⟩
      · refine SeqAt.eq_list_lengthsAt ⟨_, h1, h2, _, h3⟩ ⟨_, g1, g2, _, g3⟩ (by rw [l2]; simpa using c) hu ?_
        rw [l1, show (vs.size == 0) = false by simpa using c] at q
        exact ⟨.bl _, H, I, rfl, q⟩
  · obtain ⟨as, r1, _⟩ := De.reads I _ x v hd rx
    obtain ⟨bs, r2, _⟩ := De.reads I _ y u he ry
    cases r1 with
    | @tuple _ _ vs _ _ _ h1 h2 h3 h4 =>
    cases r2 with
    | @tuple _ _ ws _ _ _ g1 g2 g3 g4 =>
      have l1 := isE_size (SeqAt.ReadsAll.length _ _ _ h4)
      have l2 : ws.size = 0 := by have := SeqAt.ReadsAll.length _ _ _ g4; rw [Array.length_toList] at this; exact this
      refine SeqAt.eq_tupleAt (e := fun _ => true) ⟨_, h1, h2, _, h3⟩ ⟨_, g1, g2, _, g3⟩ hu (fun j _ h => by omega) ?_
      rw [l2, Nat.min_zero]
      rw [l1] at q
      exact ⟨.bl _, H, I, rfl, q⟩
theorem op_neN (hu : X.A.units < cLine) : OpR X (compareOp .NotEq) (rEqN X.K true) := by
  intro pins s σ H x y v u Q I rx ry h
  obtain ⟨ds, hd, q⟩ := h
  rcases hd with ⟨hd, he⟩ | ⟨hd, he⟩
  · obtain ⟨as, r1, _⟩ := De.reads I _ x v hd rx
    obtain ⟨bs, r2, _⟩ := De.reads I _ y u he ry
    cases r1 with
    | @list _ _ vs _ _ _ h1 h2 h3 h4 =>
    cases r2 with
    | @list _ _ ws _ _ _ g1 g2 g3 g4 =>
      have l1 := isE_size (SeqAt.ReadsAll.length _ _ _ h4)
      have l2 : ws.size = 0 := by have := SeqAt.ReadsAll.length _ _ _ g4; rw [Array.length_toList] at this; exact this
      by_cases c : vs.size = 0
      · refine SeqAt.RcNeAt.lists (e := fun _ => true) ⟨_, h1, h2, _, h3⟩ ⟨_, g1, g2, _, g3⟩ (by rw [c, l2]) hu (fun j h _ => by omega) _ _ _ _ ?_
        rw [c] at l1 ⊢
        rw [l1] at q
        exact ⟨.bl _, H, I, rfl, q⟩
      · refine SeqAt.RcNeAt.lists_lengths ⟨_, h1, h2, _, h3⟩ ⟨_, g1, g2, _, g3⟩ (by rw [l2]; simpa using c) hu _ _ _ _ ?_
        rw [l1, show (vs.size == 0) = false by simpa using c] at q
        exact ⟨.bl _, H, I, rfl, q⟩
  · obtain ⟨as, r1, _⟩ := De.reads I _ x v hd rx
    obtain ⟨bs, r2, _⟩ := De.reads I _ y u he ry
    cases r1 with
    | @tuple _ _ vs _ _ _ h1 h2 h3 h4 =>
    cases r2 with
    | @tuple _ _ ws _ _ _ g1 g2 g3 g4 =>
      have l1 := isE_size (SeqAt.ReadsAll.length _ _ _ h4)
      have l2 : ws.size = 0 := by have := SeqAt.ReadsAll.length _ _ _ g4; rw [Array.length_toList] at this; exact this
      refine SeqAt.RcNeAt.tuples (e := fun _ => true) ⟨_, h1, h2, _, h3⟩ ⟨_, g1, g2, _, g3⟩ hu (fun j _ h => by omega) _ _ _ _ ?_
      rw [l2, Nat.min_zero]
      rw [l1] at q
      exact ⟨.bl _, H, I, rfl, q⟩
end
/-- the readings of the comparisons that are carried -/
def rCmp (K : PySem.W.Frag) : CmpOp → R2
  | .Eq => fun x y H Q => rEqD K x y H Q ∨ rEqN K false x y H Q
  | .NotEq => fun x y H Q => rNeD K x y H Q ∨ rEqN K true x y H Q
  | .In => fun x y H Q => rInT K false x y H Q ∨ rInE K false x y H Q
  | .NotIn => fun x y H Q => rInT K true x y H Q ∨ rInE K true x y H Q
  | .Is => fun x y H Q => (y = .non ∧ Q (.bl (decide (x = .non))) H) ∨ ∃ c d, x = .bl c ∧ y = .bl d ∧ Q (.bl (c == d)) H
  | .IsNot => fun x y H Q => (y = .non ∧ Q (.bl (!decide (x = .non))) H) ∨ ∃ c d, x = .bl c ∧ y = .bl d ∧ Q (.bl (c != d)) H
  | .Lt => rI0 fun i j => .bl (decide (i < j))
  | .LtE => rI0 fun i j => .bl (decide (i ≤ j))
  | .Gt => rI0 fun i j => .bl (decide (j < i))
  | .GtE => rI0 fun i j => .bl (decide (j ≤ i))
theorem op_isB {X : Cx} : OpR X (compareOp .Is) (fun x y H Q => ∃ c d, x = .bl c ∧ y = .bl d ∧ Q (.bl (c == d)) H) := by
  intro pins s σ H x y v u Q I rx ry h
  obtain ⟨c, d, rfl, rfl, q⟩ := h
  cases rx
  cases ry
  exact PyProof.Rows.is_bool (fin_bl I q rfl)
theorem op_notB {X : Cx} : OpR X (compareOp .IsNot) (fun x y H Q => ∃ c d, x = .bl c ∧ y = .bl d ∧ Q (.bl (c != d)) H) := by
  intro pins s σ H x y v u Q I rx ry h
  obtain ⟨c, d, rfl, rfl, q⟩ := h
  cases rx
  cases ry
  exact PyProof.Rows.isnot_bool (fin_bl I q rfl)
theorem opr_cmp {X : Cx} (hu : X.A.units + 65 < cLine) : ∀ op : CmpOp, OpR X (compareOp op) (rCmp X.K op)
  | .Eq => (op_eqD (by omega)).or (op_eqN (by omega))
  | .NotEq => (op_neD (by omega)).or (op_neN (by omega))
  | .In => (op_inT hu).or (op_inE hu)
  | .NotIn => (op_notInT hu).or (op_notInE hu)
  | .Is => op_isN.or op_isB
  | .IsNot => op_notN.or op_notB
  | .Lt => op_lt
  | .LtE => op_le
  | .Gt => op_gt
  | .GtE => op_ge
theorem Rel.isNon {W : Wd} {ρ : List Addr} {H : Hp} {d : D} {v : V} (r : Rel W ρ H d v) : decide (v = .non) = isNonB d := by
  cases r <;> simp [isNonB]
theorem snd_cmp {K : PySem.W.Frag} {mg : Str → Option Value} (op : CmpOp) : SndO K mg (rCmp K op) (cmpD op) := by
  intro av E ρ H st Q a b x y s ra rb h
  unfold cmpD R.of at h
  cases hk : cmpB op a b st with
  | none => rw [hk] at h; exact h.elim
  | some k =>
    rw [hk] at h
    have q : Q (.bl k) H := h.ok s (.bl k)
    have eqs : ∀ k', eqB a b st = some k' → (∃ d e, Dp K H x d ∧ Dp K H y e ∧ SeqAt.shaped d = true ∧ SeqAt.shaped e = true ∧ k' = PyData.eqv d e) ∨ ∃ ds, ((De K H x (.list ds) ∧ De K H y (.list [])) ∨ (De K H x (.tuple ds) ∧ De K H y (.tuple []))) ∧ k' = ds.isEmpty := fun k' e => (eqB_dp s ra rb e).imp id fun ⟨p, q, hp, hq, z⟩ => emQ_of s ra rb hp hq z
    have ins : ∀ k', inB a b st = some k' → ∃ d ds, Dp K H x d ∧ (Dp K H y (.list ds) ∧ SeqAt.shaped (.list ds) = true ∨ Dp K H y (.tuple ds) ∧ SeqAt.shaped (.tuple ds) = true) ∧ SeqAt.shaped d = true ∧ k' = ds.any fun z => PyData.eqv z d := by
      intro k' e
      unfold inB at e
      split at e
      · rename_i p qs hp hq
        split at e
        · rename_i z
          obtain ⟨h1, h2⟩ := Bool.and_eq_true_iff.mp z
          cases e
          exact ⟨p, qs, ra.view s hp (Bool.and_eq_true_iff.mp h1).1, .inl ⟨rb.view s hq (Bool.and_eq_true_iff.mp h2).1, h2⟩, h1, rfl⟩
        · cases e
      · rename_i p qs hp hq
        split at e
        · rename_i z
          obtain ⟨h1, h2⟩ := Bool.and_eq_true_iff.mp z
          cases e
          exact ⟨p, qs, ra.view s hp (Bool.and_eq_true_iff.mp h1).1, .inr ⟨rb.view s hq (Bool.and_eq_true_iff.mp h2).1, h2⟩, h1, rfl⟩
        · cases e
      · cases e
    cases op with
    | Eq =>
      rcases eqs k hk with ⟨d, e, h1, h2, h3, h4, rfl⟩ | ⟨ds, h1, rfl⟩
      · exact .inl ⟨d, e, h1, h2, h3, h4, q⟩
      · exact .inr ⟨ds, h1, q⟩
    | NotEq =>
      cases hz : eqB a b st with
      | none => unfold cmpB at hk; rw [hz] at hk; cases hk
      | some k' =>
        unfold cmpB at hk; rw [hz] at hk; cases hk
        rcases eqs k' hz with ⟨d, e, h1, h2, h3, h4, rfl⟩ | ⟨ds, h1, rfl⟩
        · exact .inl ⟨d, e, h1, h2, h3, h4, q⟩
        · exact .inr ⟨ds, h1, q⟩
    | In =>
      rcases inE_dp s ra rb (show inE a b st = some k from hk) with hz | ⟨d, ds, h1, h2, h3, h4, rfl⟩
      · obtain ⟨d, ds, h1, h2, h3, rfl⟩ := ins k hz
        exact .inl ⟨d, ds, h1, h2, h3, q⟩
      · exact .inr ⟨d, ds, h1, h2, h3, h4, q⟩
    | NotIn =>
      cases hz : inE a b st with
      | none => unfold cmpB at hk; rw [hz] at hk; cases hk
      | some k' =>
        unfold cmpB at hk; rw [hz] at hk; cases hk
        rcases inE_dp s ra rb hz with hz | ⟨d, ds, h1, h2, h3, h4, rfl⟩
        · obtain ⟨d, ds, h1, h2, h3, rfl⟩ := ins k' hz
          exact .inl ⟨d, ds, h1, h2, h3, q⟩
        · exact .inr ⟨d, ds, h1, h2, h3, h4, q⟩
    | Is =>
      unfold cmpB at hk
      cases rb with
      | non => simp only [Option.some.injEq] at hk; exact .inl ⟨rfl, by rw [ra.isNon, hk]; exact q⟩
      | bl d =>
        cases ra with
        | bl c => simp only [Option.some.injEq] at hk; exact .inr ⟨c, d, rfl, rfl, by rw [hk]; exact q⟩
        | _ => cases hk
      | _ => cases hk
    | IsNot =>
      unfold cmpB at hk
      cases rb with
      | bl d =>
        cases ra with
        | bl c => simp only [Option.some.injEq] at hk; exact .inr ⟨c, d, rfl, rfl, by rw [hk]; exact q⟩
        | _ => cases hk
      | non =>
        simp only [Option.some.injEq] at hk
        refine .inl ⟨rfl, ?_⟩
        have e : (!decide (x = .non)) = k := by rw [ra.isNon, ← hk]
        rw [e]; exact q
      | _ => cases hk
    | Lt =>
      unfold cmpB at hk
      cases ra <;> cases rb <;> simp [bI] at hk
      exact ⟨_, _, rfl, rfl, by rw [← hk] at q; exact q⟩
    | LtE =>
      unfold cmpB at hk
      cases ra <;> cases rb <;> simp [bI] at hk
      exact ⟨_, _, rfl, rfl, by rw [← hk] at q; exact q⟩
    | Gt =>
      unfold cmpB at hk
      cases ra <;> cases rb <;> simp [bI] at hk
      exact ⟨_, _, rfl, rfl, by rw [← hk] at q; exact q⟩
    | GtE =>
      unfold cmpB at hk
      cases ra <;> cases rb <;> simp [bI] at hk
      exact ⟨_, _, rfl, rfl, by rw [← hk] at q; exact q⟩
end DX

/-! DxE: arithmetic, subscripts, slices, builtins. -/
set_option linter.all false
set_option maxRecDepth 100000
set_option Elab.async false
namespace DX
open PySem PySem.Spec PyProof.Rows L2

/-! ### lists that may be the module's own -/
section
variable {X : Cx}
def rCatL (K : PySem.W.Frag) : R2 := fun x y H Q => ∃ l b xs zs, x = .ref l ∧ y = .ref b ∧ SqL K H l xs ∧ SqL K H b zs ∧ xs.length + zs.length ≤ sizeLine ∧ ∀ p, H p = none → Q (.ref p) (upd H p (.lst (xs ++ zs)))
theorem op_catL : OpR X (binaryOp .Add) (rCatL X.K) := by
  intro pins s σ H x y v u Q I rx ry h
  obtain ⟨l, b, xs, zs, rfl, rfl, h1, h2, hz, q⟩ := h
  cases rx
  cases ry
  obtain ⟨its, r1, ⟨⟨c1, d1, a1, s1⟩, n1, o1, k1, _, e1⟩, _⟩ := I.list h1
  obtain ⟨jts, r2, ⟨⟨c2, d2, a2, s2⟩, n2, o2, k2, _, e2⟩, _⟩ := I.list h2
  simp only at k1 e1 k2 e2
  subst k1 e1 k2 e2
  have big : its.toArray.size + jts.toArray.size ≤ sizeLine := by rw [List.size_toArray, List.size_toArray, ← r1.length, ← r2.length]; exact hz
  refine concat_meets ⟨_, o1, rfl⟩ ⟨_, o2, rfl⟩ noFill_list_add seq_list_add PySem.F.slot_list_add PySem.F.entry_list_add (PySem.F.args_list_add_2 _ _) (list_addW l b its.toArray jts.toArray n1 n2 d1 d2 s1 s2 big) ⟨o1, o2, ?_⟩
  have ea : its.toArray ++ jts.toArray = (its ++ jts).toArray := by simp
  rw [ea]
  exact ⟨.ref _, _, I.lnew (t' := s.toks) (r1.append r2) (by rw [List.length_append]; omega), rfl, q _ I.fresh⟩
end

/-! ### + - * // % ** -/
def addD (mt : Bool) (a b : D) (st : Sto) : R D :=
  match a, b with
  | .int i, .int j => .ok (.int (i + j)) st
  | .int i, .bl k => .ok (.int (i + b2i k)) st
  | .str x, .str y => if x.length + y.length ≤ sizeLine then .ok (.str (x ++ y)) st else .no
  | .tup xs, .tup ys => if xs.length + ys.length ≤ sizeLine then .ok (.tup (xs ++ ys)) st else .no
  | a, b => match items st a, items st b with
    | some xs, some ys => if xs.length + ys.length ≤ sizeLine then newL mt (xs ++ ys) st else .no
    | _, _ => .no
def rAddD (K : PySem.W.Frag) : R2 := fun x y H Q =>
  ((((rI0 fun i j => .int (i + j)) x y H Q ∨ (∃ i k, x = .int i ∧ y = .bl k ∧ Q (.int (i + b2i k)) H)) ∨ (∃ i j, x = .str i ∧ y = .str j ∧ i.length + j.length ≤ sizeLine ∧ Q (.str (i ++ j)) H)) ∨ rCatA K x y H Q) ∨ rCatL K x y H Q
theorem op_addD {X : Cx} : OpR X (binaryOp .Add) (rAddD X.K) := (((op_add.or op_add_ib).or op_add_str).or op_catA).or op_catL
theorem snd_addL {K : PySem.W.Frag} {mg : Str → Option Value} {mt : Bool} {av : List Addr} {E : XK} {ρ : List Addr} {H : Hp} {st : Sto} {Q : VK} {a b : D} {x y : V} (s : SR ⟨K, mg, av⟩ ρ H st) (ra : Rel ⟨K, mg, av⟩ ρ H a x) (rb : Rel ⟨K, mg, av⟩ ρ H b y)
    (h : Post ⟨K, mg, av⟩ (Rel ⟨K, mg, av⟩) E ρ H Q (match items st a, items st b with
      | some xs, some ys => if xs.length + ys.length ≤ sizeLine then newL mt (xs ++ ys) st else .no
      | _, _ => .no)) : rAddD K x y H Q := by
  split at h
  · rename_i xs ys ea eb
    split at h
    · rename_i hz
      obtain ⟨p, vs, rfl, h1, r1⟩ := ra.list s ea
      obtain ⟨q, ws, rfl, h2, r2⟩ := rb.list s eb
      exact .inr ⟨p, q, vs, ws, rfl, rfl, h1, h2, by rw [← r1.length, ← r2.length]; exact hz, post_newL s (r1.append r2) h⟩
    · exact h.elim
  · exact h.elim
theorem snd_add {K : PySem.W.Frag} {mg : Str → Option Value} {mt : Bool} : SndO K mg (rAddD K) (addD mt) := by
  intro av E ρ H st Q a b x y s ra rb h
  unfold addD at h
  split at h
  · cases ra; cases rb
    exact .inl (.inl (.inl (.inl ⟨_, _, rfl, rfl, h.ok s (.int _)⟩)))
  · cases ra; cases rb
    exact .inl (.inl (.inl (.inr ⟨_, _, rfl, rfl, h.ok s (.int _)⟩)))
  · split at h
    · rename_i hz
      cases ra; cases rb
      exact .inl (.inl (.inr ⟨_, _, rfl, rfl, hz, h.ok s (.str _)⟩))
    · exact h.elim
  · rename_i xs ys
    split at h
    · rename_i hz
      obtain ⟨p, vs, rfl, h1, r1⟩ := ra.tuple
      obtain ⟨q, ws, rfl, h2, r2⟩ := rb.tuple
      refine .inl (.inr ⟨p, q, vs, ws, rfl, rfl, h1, h2, by rw [← r1.length, ← r2.length]; exact hz, fun e => ?_, fun _ e => ?_, fun _ _ => post_newT s (r1.append r2) h⟩)
      · subst e
        cases r1
        exact h.ok s (by rw [List.nil_append]; exact rb)
      · subst e
        cases r2
        exact h.ok s (by rw [List.append_nil]; exact ra)
    · exact h.elim
  · exact snd_addL s ra rb h

def arD (op : Operator) (a b : D) (st : Sto) : R D :=
  match op, a, b with
  | .Sub, .int i, .int j => .ok (.int (i - j)) st
  | .Mult, .int i, .int j => if (-(2 ^ 64) < i ∧ i < 2 ^ 64) ∨ (-(2 ^ 64) < j ∧ j < 2 ^ 64) then .ok (.int (i * j)) st else .no
  | .FloorDiv, .int i, .int j => if j ≠ 0 ∧ j.natAbs < 1073741824 then .ok (.int (i.fdiv j)) st else .no
  | .Mod, .int i, .int j => if j ≠ 0 then .ok (.int (i.fmod j)) st else .no
  | .Pow, .int i, .int j => if 0 ≤ j ∧ j ≤ 1000000 ∧ i.natAbs < 2 ^ 64 then .ok (.int (i ^ j.toNat)) st else .no
  | _, _, _ => .no
def rAr : Operator → R2
  | .Sub => rI0 fun i j => .int (i - j)
  | .Mult => rI CMul fun i j => .int (i * j)
  | .FloorDiv => rI CDivN fun i j => .int (i.fdiv j)
  | .Mod => rI (fun _ j => j ≠ 0) fun i j => .int (i.fmod j)
  | .Pow => rI CPow fun i j => .int (i ^ j.toNat)
  | _ => fun _ _ _ _ => False
theorem op_ar {X : Cx} : ∀ op : Operator, OpR X (binaryOp op) (rAr op)
  | .Sub => op_sub
  | .Mult => op_mul
  | .FloorDiv => op_fdivN
  | .Mod => op_modN
  | .Pow => op_pow
  | .Add | .MatMult | .Div | .LShift | .RShift | .BitOr | .BitXor | .BitAnd => fun _ _ _ _ _ _ _ _ _ _ _ _ h => h.elim
theorem snd_ar {K : PySem.W.Frag} {mg : Str → Option Value} (op : Operator) : SndO K mg (rAr op) (arD op) := by
  intro av E ρ H st Q a b x y s ra rb h
  unfold arD at h
  split at h
  · cases ra; cases rb; exact ⟨_, _, rfl, rfl, h.ok s (.int _)⟩
  · split at h
    · rename_i c; cases ra; cases rb; exact ⟨_, _, rfl, rfl, c, h.ok s (.int _)⟩
    · exact h.elim
  · split at h
    · rename_i c; cases ra; cases rb; exact ⟨_, _, rfl, rfl, c, h.ok s (.int _)⟩
    · exact h.elim
  · split at h
    · rename_i c; cases ra; cases rb; exact ⟨_, _, rfl, rfl, c, h.ok s (.int _)⟩
    · exact h.elim
  · split at h
    · rename_i c; cases ra; cases rb; exact ⟨_, _, rfl, rfl, c, h.ok s (.int _)⟩
    · exact h.elim
  · exact h.elim

/-! ### -x -/
def mNeg (a : EM) : EM := fun e st => (a e st).bind fun d st1 => match d with
  | .int i => .ok (.int (-i)) st1
  | _ => .no
theorem snd_neg {K : PySem.W.Frag} {mg : Str → Option Value} {Wx : WX} {ta : TE} {a : EM} (ha : SndE K mg ta Wx a) : SndE K mg (tUn (rU fun i => .int (-i)) ta) Wx (mNeg a) := by
  intro av σ e ρ H st Q s er h
  refine ha av σ e ρ H st _ s er ((Post.bind h).imp ?_)
  rintro v H1 ⟨d, ρ1, st1, x1, s1, r1, q1⟩
  split at q1
  · cases r1; exact ⟨_, rfl, q1.ok s1 (.int _)⟩
  · exact q1.elim

/-! ### truth, and, or, not, if -/
def truD (st : Sto) : D → Option Bool
  | .non => some false
  | .bl b => some b
  | .int i => some (i != 0)
  | .str x => if x.length ≤ sizeLine then some ((x.length : Int) != 0) else none
  | .tup xs => some !xs.isEmpty
  | .edct => some false
  | .loc n => match st[n]? with
    | some (.lst xs) => some !xs.isEmpty
    | some (.dct kvs) => some !kvs.isEmpty
    | _ => none
  | .lst xs => some !xs.isEmpty
  | _ => none
theorem Rels.empty {W : Wd} {ρ : List Addr} {H : Hp} {xs : List D} {vs : List V} (r : Rels W ρ H xs vs) : xs.isEmpty = vs.isEmpty := by cases r <;> rfl
theorem Rel.tru {W : Wd} {ρ : List Addr} {H : Hp} {st : Sto} (s : SR W ρ H st) {d : D} {v : V} {k : Bool} (r : Rel W ρ H d v) (e : truD st d = some k) : TruV W.K v H k := by
  cases r with
  | non => cases e; rfl
  | bl b => cases e; rfl
  | int i => cases e; rfl
  | str x =>
    have e' : (if x.length ≤ sizeLine then some ((x.length : Int) != 0) else none) = some k := e
    by_cases z : x.length ≤ sizeLine
    · rw [if_pos z] at e'; cases e'; exact ⟨z, rfl⟩
    · rw [if_neg z] at e'; cases e'
  | tup h n m t => cases e; exact .inr (.inl ⟨_, .inl h, by rw [t.empty]⟩)
  | tupK h t => cases e; exact .inr (.inl ⟨_, .inr h, by rw [t.empty]⟩)
  | lst h n m t => cases e; exact .inl ⟨_, .inl h, by rw [t.empty]⟩
  | lstK h t => cases e; exact .inl ⟨_, .inr h, by rw [t.empty]⟩
  | edct h n m => cases e; exact .inr (.inr ⟨_, h, rfl⟩)
  | @loc n a h =>
    unfold truD at e
    cases q : st[n]? with
    | none => simp [q] at e
    | some o =>
      have g := s.at_ n a o h q
      cases o with
      | lst ys =>
        obtain ⟨vs, h1, t⟩ := g
        simp only [q, Option.some.injEq] at e
        subst e
        exact .inl ⟨_, .of h1, by rw [t.empty]⟩
      | dct kvs =>
        obtain ⟨vs, h1, t⟩ := g
        simp only [q, Option.some.injEq] at e
        subst e
        exact .inr (.inr ⟨_, h1, by cases t <;> rfl⟩)
      | ins _ _ => simp [q] at e
      | rng _ _ => simp [q] at e
  | glob h => cases e
  | ty n => cases e

/-- an expression as a test -/
def mTru (a : EM) : TM := fun e st => (a e st).bind fun d st1 => R.of (truD st1 d) st1
theorem snd_tru {K : PySem.W.Frag} {mg : Str → Option Value} {Wx : WX} {ta : TE} {a : EM} (ha : SndE K mg ta Wx a) : SndT K mg (fun σ H Q => ta σ H fun x H' => ∃ k, TruV K x H' k ∧ Q k H') Wx (mTru a) := by
  intro av σ e ρ H st Q s er h
  refine ha av σ e ρ H st _ s er ((Post.bind h).imp ?_)
  rintro v H1 ⟨d, ρ1, st1, x1, s1, r1, q1⟩
  unfold R.of at q1
  split at q1
  · rename_i k hk; exact ⟨k, r1.tru s1 hk, q1.ok s1 rfl⟩
  · exact q1.elim
/-- one whose value is a bool -/
def mTst (a : EM) : TM := fun e st => (a e st).bind fun d st1 => match d with
  | .bl k => .ok k st1
  | _ => .no
theorem snd_tst {K : PySem.W.Frag} {mg : Str → Option Value} {Wx : WX} {ta : TE} {a : EM} (ha : SndE K mg ta Wx a) : SndT K mg (tTest ta) Wx (mTst a) := by
  intro av σ e ρ H st Q s er h
  refine ha av σ e ρ H st _ s er ((Post.bind h).imp ?_)
  rintro v H1 ⟨d, ρ1, st1, x1, s1, r1, q1⟩
  split at q1
  · cases r1; exact ⟨_, rfl, q1.ok s1 rfl⟩
  · exact q1.elim
def tmAnd (a b : TM) : TM := fun e st => (a e st).bind fun k st1 => if k then b e st1 else .ok false st1
def tmOr (a b : TM) : TM := fun e st => (a e st).bind fun k st1 => if k then .ok true st1 else b e st1
def tmNot (a : TM) : TM := fun e st => (a e st).bind fun k st1 => .ok (!k) st1
section
variable {K : PySem.W.Frag} {mg : Str → Option Value} {Wx : WX}
theorem snd_and {ta tb : TT} {a b : TM} (ha : SndT K mg ta Wx a) (hb : SndT K mg tb Wx b) : SndT K mg (tAnd ta tb) Wx (tmAnd a b) := by
  intro av σ e ρ H st Q s er h
  refine ha av σ e ρ H st _ s er ((Post.bind h).imp ?_)
  rintro v H1 ⟨d, ρ1, st1, x1, s1, rfl, q1⟩
  cases d with
  | true => exact hb av σ e ρ1 H1 st1 Q s1 (er.ext x1) q1
  | false => exact q1.ok s1 rfl
theorem snd_or {ta tb : TT} {a b : TM} (ha : SndT K mg ta Wx a) (hb : SndT K mg tb Wx b) : SndT K mg (tOr ta tb) Wx (tmOr a b) := by
  intro av σ e ρ H st Q s er h
  refine ha av σ e ρ H st _ s er ((Post.bind h).imp ?_)
  rintro v H1 ⟨d, ρ1, st1, x1, s1, rfl, q1⟩
  cases d with
  | true => exact q1.ok s1 rfl
  | false => exact hb av σ e ρ1 H1 st1 Q s1 (er.ext x1) q1
theorem snd_not {ta : TT} {a : TM} (ha : SndT K mg ta Wx a) : SndT K mg (tNot ta) Wx (tmNot a) := by
  intro av σ e ρ H st Q s er h
  refine ha av σ e ρ H st _ s er ((Post.bind h).imp ?_)
  rintro v H1 ⟨d, ρ1, st1, x1, s1, rfl, q1⟩
  exact q1.ok s1 rfl
/-- x and y, x or y, not x as values -/
def mAnd (a b : EM) : EM := fun e st => (a e st).bind fun d st1 => (R.of (truD st1 d) st1).bind fun k st2 => if k then b e st2 else .ok d st2
def mOr (a b : EM) : EM := fun e st => (a e st).bind fun d st1 => (R.of (truD st1 d) st1).bind fun k st2 => if k then .ok d st2 else b e st2
def mNot (a : EM) : EM := fun e st => (a e st).bind fun d st1 => (R.of (truD st1 d) st1).bind fun k st2 => .ok (.bl (!k)) st2
theorem snd_andV {ta tb : TE} {a b : EM} (ha : SndE K mg ta Wx a) (hb : SndE K mg tb Wx b) : SndE K mg (tAndT K ta tb) Wx (mAnd a b) := by
  intro av σ e ρ H st Q s er h
  refine ha av σ e ρ H st _ s er ((Post.bind h).imp ?_)
  rintro v H1 ⟨d, ρ1, st1, x1, s1, r1, q1⟩
  unfold R.of at q1
  cases hk : truD st1 d with
  | none => rw [hk] at q1; exact q1.elim
  | some k =>
    rw [hk] at q1
    refine ⟨k, r1.tru s1 hk, ?_⟩
    cases k with
    | true => exact hb av σ e ρ1 H1 st1 Q s1 (er.ext x1) q1
    | false => exact q1.ok s1 r1
theorem snd_orV {ta tb : TE} {a b : EM} (ha : SndE K mg ta Wx a) (hb : SndE K mg tb Wx b) : SndE K mg (tOrT K ta tb) Wx (mOr a b) := by
  intro av σ e ρ H st Q s er h
  refine ha av σ e ρ H st _ s er ((Post.bind h).imp ?_)
  rintro v H1 ⟨d, ρ1, st1, x1, s1, r1, q1⟩
  unfold R.of at q1
  cases hk : truD st1 d with
  | none => rw [hk] at q1; exact q1.elim
  | some k =>
    rw [hk] at q1
    refine ⟨k, r1.tru s1 hk, ?_⟩
    cases k with
    | true => exact q1.ok s1 r1
    | false => exact hb av σ e ρ1 H1 st1 Q s1 (er.ext x1) q1
theorem snd_notV {ta : TE} {a : EM} (ha : SndE K mg ta Wx a) : SndE K mg (tNotT K ta) Wx (mNot a) := by
  intro av σ e ρ H st Q s er h
  refine ha av σ e ρ H st _ s er ((Post.bind h).imp ?_)
  rintro v H1 ⟨d, ρ1, st1, x1, s1, r1, q1⟩
  unfold R.of at q1
  cases hk : truD st1 d with
  | none => rw [hk] at q1; exact q1.elim
  | some k =>
    rw [hk] at q1
    exact ⟨k, r1.tru s1 hk, q1.ok s1 (.bl _)⟩
def mIf (c : TM) (a b : EM) : EM := fun e st => (c e st).bind fun k st1 => if k then a e st1 else b e st1
theorem snd_if {tc : TT} {ta tb : TE} {c : TM} {a b : EM} (hc : SndT K mg tc Wx c) (ha : SndE K mg ta Wx a) (hb : SndE K mg tb Wx b) : SndE K mg (tIf tc ta tb) Wx (mIf c a b) := by
  intro av σ e ρ H st Q s er h
  refine hc av σ e ρ H st _ s er ((Post.bind h).imp ?_)
  rintro v H1 ⟨d, ρ1, st1, x1, s1, rfl, q1⟩
  cases d with
  | true => exact ha av σ e ρ1 H1 st1 Q s1 (er.ext x1) q1
  | false => exact hb av σ e ρ1 H1 st1 Q s1 (er.ext x1) q1
end

/-! ### subscripts, slices -/
def ixD0 (a b : D) (st : Sto) : R D :=
  match b with
  | .int i => match a with
    | .str z => if z.length ≤ sizeLine then R.of ((atI z.cps.toList i).map fun c => .str ⟨#[c]⟩) st else .no
    | a => match seqItems st a with
      | some xs => R.of (atI xs i) st
      | none => .no
  | _ => .no
theorem Rels.atI {W : Wd} {ρ : List Addr} {H : Hp} {xs : List D} {vs : List V} {i : Int} {d : D} (r : Rels W ρ H xs vs) (e : L2.atI xs i = some d) : ∃ v, L2.atI vs i = some v ∧ Rel W ρ H d v := by
  unfold L2.atI at *
  rw [← r.length]
  cases q : ixN xs.length i with
  | none => rw [q] at e; cases e
  | some j =>
    rw [q] at e
    exact r.get e
theorem snd_ix0 {K : PySem.W.Frag} {mg : Str → Option Value} : SndO K mg (rIx K) ixD0 := by
  intro av E ρ H st Q a b x y s ra rb h
  unfold ixD0 at h
  split at h
  · rename_i i
    cases rb
    split at h
    · rename_i z
      cases ra
      split at h
      · rename_i hz
        unfold R.of at h
        cases q : L2.atI z.cps.toList i with
        | none => rw [q] at h; exact h.elim
        | some c =>
          rw [q] at h
          exact .inr (.inr ⟨_, _, c, rfl, rfl, hz, q, h.ok s (.str _)⟩)
      · exact h.elim
    · rename_i hns
      cases e : seqItems st a with
      | none => rw [e] at h; exact h.elim
      | some xs =>
        rw [e] at h
        unfold R.of at h
        cases q : L2.atI xs i with
        | none => simp only [q] at h; exact h.elim
        | some d =>
          simp only [q] at h
          have fromList : ∀ ys, items st a = some ys → ys = xs → rIx K x (.int i) H Q := by
            rintro ys e' rfl
            obtain ⟨p, vs, rfl, h1, r1⟩ := ra.list s e'
            obtain ⟨v, h2, r2⟩ := r1.atI q
            exact .inl ⟨p, vs, i, v, rfl, rfl, h1, h2, h.ok s r2⟩
          cases a with
          | tup ys =>
            cases e
            obtain ⟨p, vs, rfl, h1, r1⟩ := ra.tuple
            obtain ⟨v, h2, r2⟩ := r1.atI q
            exact .inr (.inl ⟨p, vs, i, v, rfl, rfl, h1, h2, h.ok s r2⟩)
          | lst ys => exact fromList xs e rfl
          | loc n => exact fromList xs e rfl
          | _ => cases e
  · exact h.elim
end DX

/-! DxF: builtins, methods, dicts. -/
set_option linter.all false
set_option maxRecDepth 100000
set_option Elab.async false
namespace DX
open PySem PySem.Spec PyProof.Rows L2

section
variable {K : PySem.W.Frag} {mg : Str → Option Value} {Wx : WX}

/-! ### slices -/
def sliceD (mt : Bool) (a : D) (lo hi : Option Int) (st : Sto) : R D :=
  match a with
  | .str z => if z.length ≤ sizeLine then .ok (.str (cutS z lo hi)) st else .no
  | .tup xs => .ok (.tup ((xs.drop (HT.sIx xs.length 0 lo)).take (HT.sIx xs.length xs.length hi - HT.sIx xs.length 0 lo))) st
  | a => match items st a with
    | some xs => newL mt ((xs.drop (HT.sIx xs.length 0 lo)).take (HT.sIx xs.length xs.length hi - HT.sIx xs.length 0 lo)) st
    | none => .no
def rSlD (K : PySem.W.Frag) : V → Option Int → Option Int → Hp → VK → Prop := fun x lo hi H Q => (rSlS x lo hi H Q ∨ rSlA K x lo hi H Q) ∨ rSlL K x lo hi H Q
theorem sl_D {X : Cx} : SlR X (rSlD X.K) := (SlR.or (SlR.or sl_str sl_tupA) sl_list)
theorem cut_whole (xs : List D) (lo hi : Option Int) (h : HT.sIx xs.length 0 lo = 0 ∧ HT.sIx xs.length xs.length hi = xs.length) :
    (xs.drop (HT.sIx xs.length 0 lo)).take (HT.sIx xs.length xs.length hi - HT.sIx xs.length 0 lo) = xs := by
  rw [h.1, h.2]; simp
theorem Rels.cut {W : Wd} {ρ : List Addr} {H : Hp} {xs : List D} {vs : List V} (r : Rels W ρ H xs vs) (lo hi : Option Int) :
    Rels W ρ H ((xs.drop (HT.sIx xs.length 0 lo)).take (HT.sIx xs.length xs.length hi - HT.sIx xs.length 0 lo)) (cutV vs lo hi) := by
  unfold cutV
  rw [← r.length]
  exact (r.drop _).take _
/-- a part of a slice -/
abbrev PM := Sl → Sto → R (Option Int)
def pmNone : PM := fun _ st => .ok none st
def pmSome (a : EM) : PM := fun e st => (a e st).bind fun d st1 => match d with
  | .int i => .ok (some i) st1
  | _ => .no
def SndP (K : PySem.W.Frag) (mg : Str → Option Value) (t : TO) (Wx : WX) (m : PM) : Prop :=
  ∀ av σ e ρ H st (Q : Option Int → Hp → Prop), SR ⟨K, mg, av⟩ ρ H st → ER ⟨K, mg, av⟩ ρ H e σ → Post ⟨K, mg, av⟩ (fun _ _ a b => a = b) (fun c d H => Wx c d σ H) ρ H Q (m e st) → t σ H Q
theorem snd_pnone : SndP K mg tNoPart Wx pmNone := by
  intro av σ e ρ H st Q s er h
  exact h.ok s rfl
theorem snd_psome {ta : TE} {a : EM} (ha : SndE K mg ta Wx a) : SndP K mg (tPart ta) Wx (pmSome a) := by
  intro av σ e ρ H st Q s er h
  refine ha av σ e ρ H st _ s er ((Post.bind h).imp ?_)
  rintro v H1 ⟨d, ρ1, st1, x1, s1, r1, q1⟩
  split at q1
  · cases r1; exact ⟨_, rfl, q1.ok s1 rfl⟩
  · exact q1.elim
def mSlice (mt : Bool) (a : EM) (lo hi : PM) : EM := fun e st => (a e st).bind fun x st1 => (lo e st1).bind fun l st2 => (hi e st2).bind fun u st3 => sliceD mt x l u st3
theorem snd_slice {mt : Bool} {ta : TE} {tl th : TO} {a : EM} {lo hi : PM} (ha : SndE K mg ta Wx a) (hl : SndP K mg tl Wx lo) (hh : SndP K mg th Wx hi) : SndE K mg (L2.tSl (rSlD K) ta tl th) Wx (mSlice mt a lo hi) := by
  intro av σ e ρ H st Q s er h
  refine ha av σ e ρ H st _ s er ((Post.bind h).imp ?_)
  rintro v H1 ⟨d, ρ1, st1, x1, s1, r1, q1⟩
  refine hl av σ e ρ1 H1 st1 _ s1 (er.ext x1) ((Post.bind q1).imp ?_)
  rintro l H2 ⟨l', ρ2, st2, x2, s2, rfl, q2⟩
  refine hh av σ e ρ2 H2 st2 _ s2 ((er.ext x1).ext x2) ((Post.bind q2).imp ?_)
  rintro u H3 ⟨u', ρ3, st3, x3, s3, rfl, q3⟩
  have r3 := (r1.ext x2).ext x3
  unfold sliceD at q3
  split at q3
  · split at q3
    · rename_i hz
      cases r3; exact .inl (.inl ⟨_, rfl, hz, q3.ok s3 (.str _)⟩)
    · exact q3.elim
  · rename_i xs
    obtain ⟨p, vs, rfl, h1, rs⟩ := r3.tuple
    refine .inl (.inr ⟨p, vs, rfl, h1, fun w => ?_, fun w => post_newT s3 (rs.cut l' u') q3⟩)
    rw [← rs.length] at w
    rw [cut_whole xs l' u' w] at q3
    exact q3.ok s3 r3
  · split at q3
    · rename_i xs e1
      obtain ⟨p, vs, rfl, h1, rs⟩ := r3.list s3 e1
      exact .inr ⟨p, vs, rfl, h1, post_newL s3 (rs.cut l' u') q3⟩
    · exact q3.elim

/-! ### builtins by values -/
def lenD : List D → Sto → R D
  | [.str x], st => if x.length ≤ sizeLine then .ok (.int x.length) st else .no
  | [d], st => match seqItems st d with
    | some xs => .ok (.int xs.length) st
    | none => .no
  | _, _ => .no
theorem snd_len : SndC K mg (fun xs H Q => ∃ x n, xs = [x] ∧ LenV K x H n ∧ Q (.int n) H) lenD := by
  intro av E ρ H st Q ds vs s rs h
  unfold lenD at h
  split at h
  · split at h
    · rename_i hz
      cases rs with | cons r t =>
      cases t; cases r
      exact ⟨_, _, rfl, ⟨hz, rfl⟩, h.ok s (.int _)⟩
    · exact h.elim
  · rename_i d _
    cases rs with | @cons _ _ w _ r t =>
    cases t
    cases e : seqItems st d with
    | none => rw [e] at h; exact h.elim
    | some xs =>
      rw [e] at h
      have fromList : ∀ ys, items st d = some ys → ys = xs → ∃ x n, [w] = [x] ∧ LenV K x H n ∧ Q (.int n) H := by
        rintro ys e' rfl
        obtain ⟨p, vs, rfl, h1, r1⟩ := r.list s e'
        exact ⟨_, ys.length, rfl, .inl ⟨vs, h1, r1.length⟩, h.ok s (.int _)⟩
      cases d with
      | tup ys =>
        cases e
        obtain ⟨p, vs, rfl, h1, r1⟩ := r.tuple
        exact ⟨_, xs.length, rfl, .inr ⟨vs, h1, r1.length⟩, h.ok s (.int _)⟩
      | lst ys => exact fromList xs e rfl
      | loc n => exact fromList xs e rfl
      | _ => cases e
  · exact h.elim
def absD : List D → Sto → R D
  | [.int i], st => .ok (.int (if i < 0 then -i else i)) st
  | _, _ => .no
theorem snd_abs : SndC K mg (fun xs H Q => ∃ i, xs = [.int i] ∧ Q (.int (if i < 0 then -i else i)) H) absD := by
  intro av E ρ H st Q ds vs s rs h
  unfold absD at h
  split at h
  · cases rs with | cons r t =>
    cases t; cases r
    exact ⟨_, rfl, h.ok s (.int _)⟩
  · exact h.elim
def maxD : List D → Sto → R D
  | [.int i, .int j], st => .ok (.int (if j > i then j else i)) st
  | _, _ => .no
theorem snd_max : SndC K mg (fun xs H Q => ∃ i j, xs = [.int i, .int j] ∧ Q (.int (if j > i then j else i)) H) maxD := by
  intro av E ρ H st Q ds vs s rs h
  unfold maxD at h
  split at h
  · cases rs with | cons r t =>
    cases t with | cons r2 t =>
    cases t; cases r; cases r2
    exact ⟨_, _, rfl, h.ok s (.int _)⟩
  · exact h.elim
def minD : List D → Sto → R D
  | [.int i, .int j], st => .ok (.int (if j < i then j else i)) st
  | _, _ => .no
theorem snd_min : SndC K mg (fun xs H Q => ∃ i j, xs = [.int i, .int j] ∧ Q (.int (if j < i then j else i)) H) minD := by
  intro av E ρ H st Q ds vs s rs h
  unfold minD at h
  split at h
  · cases rs with | cons r t =>
    cases t with | cons r2 t =>
    cases t; cases r; cases r2
    exact ⟨_, _, rfl, h.ok s (.int _)⟩
  · exact h.elim
def intD : List D → Sto → R D
  | [.int i], st => .ok (.int i) st
  | [.bl k], st => .ok (.int (if k then 1 else 0)) st
  | _, _ => .no
theorem snd_int : SndC K mg (fun xs H Q => (∃ i, xs = [.int i] ∧ Q (.int i) H) ∨ ∃ k, xs = [.bl k] ∧ Q (.int (if k then 1 else 0)) H) intD := by
  intro av E ρ H st Q ds vs s rs h
  unfold intD at h
  split at h
  · cases rs with | cons r t =>
    cases t; cases r
    exact .inl ⟨_, rfl, h.ok s (.int _)⟩
  · cases rs with | cons r t =>
    cases t; cases r
    exact .inr ⟨_, rfl, h.ok s (.int _)⟩
  · exact h.elim
def listD (mt : Bool) : List D → Sto → R D
  | [d], st => match seqItems st d with
    | some xs => newL mt xs st
    | none => .no
  | _, _ => .no
theorem Rel.seq {W : Wd} {ρ : List Addr} {H : Hp} {st : Sto} (s : SR W ρ H st) {d : D} {v : V} {xs : List D} (r : Rel W ρ H d v) (e : seqItems st d = some xs) : ∃ a vs, v = .ref a ∧ (SqL W.K H a vs ∨ SqT W.K H a vs) ∧ Rels W ρ H xs vs := by
  have fromList : ∀ ys, items st d = some ys → ys = xs → ∃ a vs, v = .ref a ∧ (SqL W.K H a vs ∨ SqT W.K H a vs) ∧ Rels W ρ H xs vs := by
    rintro ys e' rfl
    obtain ⟨p, vs, rfl, h1, r1⟩ := r.list s e'
    exact ⟨_, vs, rfl, .inl h1, r1⟩
  cases d with
  | tup ys =>
    cases e
    obtain ⟨p, vs, rfl, h1, r1⟩ := r.tuple
    exact ⟨_, vs, rfl, .inr h1, r1⟩
  | lst ys => exact fromList xs e rfl
  | loc n => exact fromList xs e rfl
  | _ => cases e
theorem snd_list {mt : Bool} : SndC K mg (fun xs H Q => ∃ p ys, xs = [.ref p] ∧ (SqL K H p ys ∨ SqT K H p ys) ∧ ∀ l, H l = none → Q (.ref l) (upd H l (.lst ys))) (listD mt) := by
  intro av E ρ H st Q ds vs s rs h
  unfold listD at h
  split at h
  · cases rs with | cons r t =>
    cases t
    split at h
    · rename_i xs e
      obtain ⟨p, vs, rfl, h1, r1⟩ := r.seq s e
      exact ⟨p, vs, rfl, h1, post_newL s r1 h⟩
    · exact h.elim
  · exact h.elim
/-! ### ranges that are kept -/
def rangeD : List D → Sto → R D
  | [.int j], st => .ok (.loc st.length) (st ++ [.rng 0 j])
  | [.int i, .int j], st => .ok (.loc st.length) (st ++ [.rng i j])
  | _, _ => .no
theorem post_newR {W : Wd} {E : XK} {ρ : List Addr} {H : Hp} {Q : VK} {lo hi : Int} {st : Sto} (s : SR W ρ H st) (h : Post W (Rel W) E ρ H Q (.ok (.loc st.length) (st ++ [.rng lo hi]))) :
    ∀ p, H p = none → Q (.ref p) (upd H p (.rng lo hi)) := by
  intro p np
  have x : Ext ρ H (ρ ++ [p]) (upd H p (.rng lo hi)) := .push np
  exact h (.ref p) _ _ x (s.push np upd_same) (.loc (by rw [← s.len, List.getElem?_append_right (Nat.le_refl _), Nat.sub_self]; rfl))
def rRange : List V → Hp → VK → Prop := fun vs H Q => ∃ i j, (vs = [V.int j] ∧ i = 0 ∨ vs = [V.int i, V.int j]) ∧ ∀ p, H p = none → Q (.ref p) (upd H p (.rng i j))
theorem call_rng {X : Cx} : CallR X (.type "range") rRange := by
  intro pins s σ H vs us Q I r h
  obtain ⟨i, j, hv, q⟩ := h
  rcases hv with ⟨rfl, rfl⟩ | rfl
  · cases r with | cons r t =>
    cases t
    obtain ⟨t, rfl⟩ := r
    refine call_range_1 ⟨.ref s.heap.objs.size, upd H s.heap.objs.size (.rng 0 j), I.laid (t' := s.toks + 1 + 1) (fun b o e => Heap.get?_push_of_some _ e) (Nat.le_refl _) ?_, rfl, q _ (I.hok.fresh (Nat.le_refl _))⟩
    exact ⟨s.toks, t, s.toks + 1, Heap.get?_push_size _ rfl⟩
  · cases r with | cons r t =>
    cases t with | cons r2 t =>
    cases t
    obtain ⟨t, rfl⟩ := r
    obtain ⟨u, rfl⟩ := r2
    refine call_range_2 ⟨.ref s.heap.objs.size, upd H s.heap.objs.size (.rng i j), I.laid (t' := s.toks + 1) (fun b o e => Heap.get?_push_of_some _ e) (Nat.le_refl _) ?_, rfl, q _ (I.hok.fresh (Nat.le_refl _))⟩
    exact ⟨t, u, s.toks, Heap.get?_push_size _ rfl⟩
theorem snd_range {K : PySem.W.Frag} {mg : Str → Option Value} : SndC K mg rRange rangeD := by
  intro av E ρ H st Q ds vs s rs h
  unfold rangeD at h
  split at h
  · rename_i j
    cases rs with | cons r t =>
    cases t
    cases r
    exact ⟨0, j, .inl ⟨rfl, rfl⟩, post_newR s h⟩
  · rename_i i j
    cases rs with | cons r t =>
    cases t with | cons r2 t =>
    cases t
    cases r
    cases r2
    exact ⟨i, j, .inr rfl, post_newR s h⟩
  · exact h.elim
def tupleD : List D → Sto → R D
  | [.tup xs], st => .ok (.tup xs) st
  | [d], st => match items st d with
    | some xs => .ok (.tup xs) st
    | none => .no
  | _, _ => .no
theorem snd_tuple : SndC K mg (fun xs H Q => ∃ p ys, xs = [.ref p] ∧ ((SqL K H p ys ∧ ∀ l, H l = none → Q (.ref l) (upd H l (.tup ys))) ∨ (SqT K H p ys ∧ Q (.ref p) H))) tupleD := by
  intro av E ρ H st Q ds vs s rs h
  unfold tupleD at h
  split at h
  · cases rs with | cons r t =>
    cases t
    obtain ⟨p, vs, rfl, h1, r1⟩ := r.tuple
    exact ⟨p, vs, rfl, .inr ⟨h1, h.ok s r⟩⟩
  · cases rs with | cons r t =>
    cases t
    split at h
    · rename_i xs e
      obtain ⟨p, vs, rfl, h1, r1⟩ := r.list s e
      exact ⟨p, vs, rfl, .inl ⟨h1, post_newT s r1 h⟩⟩
    · exact h.elim
  · exact h.elim
/-- the built-in class of a value -/
def tyN (st : Sto) : D → Option String
  | .non => some "NoneType"
  | .bl _ => some "bool"
  | .int _ => some "int"
  | .str _ => some "str"
  | .tup _ => some "tuple"
  | .lst _ => some "list"
  | .edct => some "dict"
  | .loc n => match st[n]? with
    | some (.lst _) => some "list"
    | some (.dct _) => some "dict"
    | _ => none
  | _ => none
theorem Rel.tyX {W : Wd} {ρ : List Addr} {H : Hp} {st : Sto} (s : SR W ρ H st) {d : D} {v : V} {t : String} (r : Rel W ρ H d v) (e : tyN st d = some t) : TyX W.K H v (.type t) := by
  cases r with
  | non => cases e; exact .base .non
  | bl b => cases e; exact .base (.bl b)
  | int i => cases e; exact .base (.int i)
  | str x => cases e; exact .base (.str x)
  | tup h n m t =>
    cases e
    rcases h with h | ⟨o, h⟩
    · exact .base (.tup h)
    · exact .fTuple h
  | tupK h t => cases e; obtain ⟨o, its, n, h1, h2, _⟩ := h; exact .kTuple h1 h2
  | lst h n m t =>
    cases e
    rcases h with h | ⟨o, h⟩
    · exact .base (.lst h)
    · exact .base (.frz h)
  | lstK h t => cases e; obtain ⟨o, its, n, h1, h2, _⟩ := h; exact .kList h1 h2
  | edct h n m => cases e; exact .base (.dK h)
  | @loc n a h =>
    unfold tyN at e
    cases q : st[n]? with
    | none => simp [q] at e
    | some o =>
      have g := s.at_ n a o h q
      cases o with
      | lst ys =>
        obtain ⟨vs, h1, _⟩ := g
        simp only [q, Option.some.injEq] at e
        subst e
        exact .base (.lst h1)
      | dct kvs =>
        obtain ⟨vs, h1, _⟩ := g
        simp only [q, Option.some.injEq] at e
        subst e
        exact .base (.dK h1)
      | ins _ _ => simp [q] at e
      | rng _ _ => simp [q] at e
  | glob h => cases e
  | ty n => cases e
def isiD : List D → Sto → R D
  | [d, .ty n], st => R.of (((tyN st d).bind fun t => kitB t n).map .bl) st
  | _, _ => .no
theorem snd_isi : SndC K mg (rIsi K) isiD := by
  intro av E ρ H st Q ds vs s rs h
  unfold isiD at h
  split at h
  · rename_i d n
    cases rs with | cons r t =>
    cases t with | cons r2 t =>
    cases t
    cases r2
    unfold R.of at h
    cases e : tyN st d with
    | none => simp [e] at h; exact h.elim
    | some t =>
      cases e2 : kitB t n with
      | none => simp [e, e2] at h; exact h.elim
      | some b =>
        simp only [e, e2, Option.bind_some, Option.map_some] at h
        exact ⟨_, _, _, _, b, rfl, .ty n, r.tyX s e, kit_ty e2, h.ok s (.bl b)⟩
  · exact h.elim

/-! ### repr -/
def reprD : List D → Sto → R D
  | [d], st => match view st d with
    | some p => if okShow p then .ok (.str p.shown) st else .no
    | none => .no
  | _, _ => .no
theorem snd_repr : SndC K mg (rReprE K) reprD := by
  intro av E ρ H st Q ds vs s rs h
  unfold reprD at h
  split at h
  · rename_i d
    cases rs with | cons r t =>
    cases t
    split at h
    · rename_i p e
      split at h
      · rename_i ok
        exact ⟨_, p, rfl, r.viewE s e, ok, h.ok s (.str _)⟩
      · exact h.elim
    · exact h.elim
  · exact h.elim
end
end DX

/-! DxG: methods of lists, dicts, statements. -/
set_option linter.all false
set_option maxRecDepth 100000
set_option Elab.async false
namespace DX
open PySem PySem.Spec PyProof.Rows L2

section
variable {K : PySem.W.Frag} {mg : Str → Option Value} {Wx : WX}

/-! ### methods of lists -/
def lstOf (st : Sto) : D → Option (Nat × List D)
  | .loc n => match st[n]? with
    | some (.lst xs) => some (n, xs)
    | _ => none
  | _ => none
theorem lstOf_rel {av : List Addr} {ρ : List Addr} {H : Hp} {st : Sto} (s : SR ⟨K, mg, av⟩ ρ H st) {d : D} {v : V} {n : Nat} {xs : List D} (r : Rel ⟨K, mg, av⟩ ρ H d v) (e : lstOf st d = some (n, xs)) :
    ∃ a vs, v = .ref a ∧ ρ[n]? = some a ∧ H a = some (.lst vs) ∧ Rels ⟨K, mg, av⟩ ρ H xs vs := by
  unfold lstOf at e
  split at e
  · rename_i m
    split at e
    · rename_i ys q
      cases e
      cases r with | loc h =>
      obtain ⟨vs, h1, t⟩ := s.at_ _ _ _ h q
      exact ⟨_, vs, rfl, h, h1, t⟩
    · cases e
  · cases e
/-- a method: what it reads follows -/
def SndM (K : PySem.W.Frag) (mg : Str → Option Value) (r : V → List V → Hp → VK → Prop) (f : Nat → List D → List D → Sto → R D) : Prop :=
  ∀ av E ρ H st (Q : VK) n a xs ws ds vs, SR ⟨K, mg, av⟩ ρ H st → ρ[n]? = some a → st[n]? = some (.lst xs) → H a = some (.lst ws) → Rels ⟨K, mg, av⟩ ρ H xs ws → Rels ⟨K, mg, av⟩ ρ H ds vs →
    Post ⟨K, mg, av⟩ (Rel ⟨K, mg, av⟩) E ρ H Q (f n xs ds st) → r (.ref a) vs H Q
/-- o.m(..), o a list of the store -/
def mMeth (f : Nat → List D → List D → Sto → R D) (o : EM) (ms : List EM) : EM := fun e st => (o e st).bind fun d st1 => match lstOf st1 d with
  | some (n, _) => (mL ms e st1).bind fun ds st2 => match st2[n]? with
    | some (.lst xs) => f n xs ds st2
    | _ => .no
  | none => .no
theorem snd_meth {r : V → List V → Hp → VK → Prop} {f : Nat → List D → List D → Sto → R D} {to : TE} {ta : TA} {o : EM} {ms : List EM} (hf : SndM K mg r f) (ho : SndE K mg to Wx o) (ha : SndL K mg ta Wx (mL ms)) :
    SndE K mg (tBM K "list" r to ta) Wx (mMeth f o ms) := by
  intro av σ e ρ H st Q s er h
  refine ho av σ e ρ H st _ s er ((Post.bind h).imp ?_)
  rintro v H1 ⟨d, ρ1, st1, x1, s1, r1, q1⟩
  split at q1
  · rename_i n ys e1
    obtain ⟨a, vs, rfl, hn, ha1, t⟩ := lstOf_rel s1 r1 e1
    refine ⟨.inl ⟨rfl, vs, .of ha1⟩, ?_⟩
    refine ha av σ e ρ1 H1 st1 _ s1 (er.ext x1) ((Post.bind q1).imp ?_)
    rintro ws H2 ⟨ds, ρ2, st2, x2, s2, r2, q2⟩
    split at q2
    · rename_i xs e2
      have hn2 : ρ2[n]? = some a := by
        obtain ⟨l, rfl, _⟩ := x2.more
        rw [List.getElem?_append_left (List.getElem?_eq_some_iff.mp hn).1]
        exact hn
      obtain ⟨us, h2, t2⟩ := s2.at_ n a _ hn2 e2
      exact hf av _ ρ2 H2 st2 Q n a xs us ds ws s2 hn2 e2 h2 t2 r2 q2
    · exact q2.elim
  · exact q1.elim
/-- .. without arguments -/
theorem snd_meth0 {r : V → List V → Hp → VK → Prop} {f : Nat → List D → List D → Sto → R D} {to : TE} {o : EM} (hf : SndM K mg r f) (ho : SndE K mg to Wx o) :
    SndE K mg (tBM0 K "list" r to) Wx (mMeth f o []) := by
  intro av σ e ρ H st Q s er h
  refine ho av σ e ρ H st _ s er ((Post.bind h).imp ?_)
  rintro v H1 ⟨d, ρ1, st1, x1, s1, r1, q1⟩
  split at q1
  · rename_i n ys e1
    obtain ⟨a, vs, rfl, hn, ha1, t⟩ := lstOf_rel s1 r1 e1
    refine ⟨.inl ⟨rfl, vs, .of ha1⟩, ?_⟩
    have q2 : Post ⟨K, mg, av⟩ (Rel ⟨K, mg, av⟩) (fun c d H => Wx c d σ H) ρ1 H1 Q (match st1[n]? with
      | some (.lst xs) => f n xs [] st1
      | _ => .no) := q1
    split at q2
    · rename_i xs e2
      obtain ⟨us, h2, t2⟩ := s1.at_ n a _ hn e2
      exact hf av _ ρ1 H1 st1 Q n a xs us [] [] s1 hn e2 h2 t2 .nil q2
    · exact q2.elim
  · exact q1.elim
/-- the store behind a write of a list -/
theorem put_lst {av : List Addr} {E : XK} {ρ : List Addr} {H : Hp} {st : Sto} {Q : VK} {n : Nat} {a : Addr} {ys : List D} {ws : List V} {d : D} {v : V} (s : SR ⟨K, mg, av⟩ ρ H st) (hn : ρ[n]? = some a) (t : Rels ⟨K, mg, av⟩ ρ H ys ws) (rd : Rel ⟨K, mg, av⟩ ρ H d v)
    (h : Post ⟨K, mg, av⟩ (Rel ⟨K, mg, av⟩) E ρ H Q (.ok d (st.set n (.lst ys)))) : Q v (upd H a (.lst ws)) := by
  have x : Ext ρ H ρ (upd H a (.lst ws)) := .put hn
  exact h v ρ _ x (s.put hn ⟨ws, upd_same, t.ext x⟩) (rd.ext x)
def appendD (n : Nat) (xs : List D) : List D → Sto → R D
  | [y], st => if xs.length < sizeLine then .ok .non (st.set n (.lst (xs ++ [y]))) else .no
  | _, _ => .no
theorem snd_append : SndM K mg rAppend appendD := by
  intro av E ρ H st Q n a xs ws ds vs s hn hs ha t rs h
  unfold appendD at h
  split at h
  · split at h
    · rename_i z
      cases rs with | cons r t' =>
      cases t'
      exact ⟨a, ws, _, rfl, rfl, ha, by rw [← t.length]; exact z, put_lst s hn (t.append (.one r)) .non h⟩
    · exact h.elim
  · exact h.elim
def extendD (n : Nat) (xs : List D) : List D → Sto → R D
  | [.loc m], st => match st[m]? with
    | some (.lst ys) => if xs.length + ys.length ≤ sizeLine then .ok .non (st.set n (.lst (xs ++ ys))) else .no
    | _ => .no
  | _, _ => .no
theorem snd_extend : SndM K mg rExtend extendD := by
  intro av E ρ H st Q n a xs ws ds vs s hn hs ha t rs h
  unfold extendD at h
  split at h
  · split at h
    · rename_i ys e
      split at h
      · rename_i z
        cases rs with | cons r t' =>
        cases t'
        cases r with | loc hm =>
        obtain ⟨us, h1, t1⟩ := s.at_ _ _ _ hm e
        exact ⟨a, _, ws, us, rfl, rfl, ha, h1, by rw [← t.length, ← t1.length]; exact z, put_lst s hn (t.append t1) .non h⟩
      · exact h.elim
    · exact h.elim
  · exact h.elim
def popD (n : Nat) (xs : List D) : List D → Sto → R D
  | [], st => match xs[xs.length - 1]? with
    | some y => .ok y (st.set n (.lst xs.dropLast))
    | none => .no
  | _, _ => .no
theorem Rels.dropLast {W : Wd} {ρ : List Addr} {H : Hp} {xs : List D} {vs : List V} (r : Rels W ρ H xs vs) : Rels W ρ H xs.dropLast vs.dropLast := by
  rw [List.dropLast_eq_take, List.dropLast_eq_take, ← r.length]
  exact r.take _
theorem snd_pop : SndM K mg rPop popD := by
  intro av E ρ H st Q n a xs ws ds vs s hn hs ha t rs h
  unfold popD at h
  split at h
  · split at h
    · rename_i y e
      cases rs
      obtain ⟨v, e2, r⟩ := t.get e
      exact ⟨a, ws, v, rfl, rfl, ha, by rw [← t.length]; exact e2, put_lst s hn t.dropLast r h⟩
    · exact h.elim
  · exact h.elim
def popAtD (n : Nat) (xs : List D) : List D → Sto → R D
  | [.int i], st => if -(2 ^ 63) ≤ i ∧ i < 2 ^ 63 then
      match seqIndex? i xs.length with
      | some k => match xs[k]? with
        | some y => .ok y (st.set n (.lst (xs.eraseIdx k)))
        | none => .no
      | none => .no
    else .no
  | _, _ => .no
theorem Rels.erase {W : Wd} {ρ : List Addr} {H : Hp} : ∀ {xs : List D} {vs : List V} (k : Nat), Rels W ρ H xs vs → Rels W ρ H (xs.eraseIdx k) (vs.eraseIdx k)
  | _, _, _, .nil => .nil
  | _, _, 0, .cons _ t => t
  | _, _, k + 1, .cons r t => .cons r (Rels.erase k t)
theorem snd_popAt : SndM K mg rPopAt popAtD := by
  intro av E ρ H st Q n a xs ws ds vs s hn hs ha t rs h
  unfold popAtD at h
  split at h
  · split at h
    · rename_i z
      split at h
      · rename_i k e
        split at h
        · rename_i y e1
          cases rs with | cons r t' =>
          cases t'
          cases r
          obtain ⟨v, e2, r⟩ := t.get e1
          exact ⟨a, ws, _, k, v, rfl, rfl, ha, z.1, z.2, by rw [← t.length]; exact e, e2, put_lst s hn (t.erase k) r h⟩
        · exact h.elim
      · exact h.elim
    · exact h.elim
  · exact h.elim
def insertD (n : Nat) (xs : List D) : List D → Sto → R D
  | [.int i, y], st => if xs.length < sizeLine ∧ 0 ≤ i ∧ i < 2 ^ 63 then .ok .non (st.set n (.lst (xs.take i.toNat ++ [y] ++ xs.drop i.toNat))) else .no
  | _, _ => .no
abbrev rInsert : V → List V → Hp → VK → Prop := fun x vs H Q => ∃ (l : Addr) (xs : List V) (i : Int) (y : V), x = .ref l ∧ vs = [.int i, y] ∧ H l = some (.lst xs) ∧ xs.length < sizeLine ∧ 0 ≤ i ∧ i < 2 ^ 63 ∧
    Q .non (upd H l (.lst (xs.take i.toNat ++ [y] ++ xs.drop i.toNat)))
theorem snd_insert : SndM K mg rInsert insertD := by
  intro av E ρ H st Q n a xs ws ds vs s hn hs ha t rs h
  unfold insertD at h
  split at h
  · split at h
    · rename_i z
      cases rs with | cons r t' =>
      cases t' with | cons r2 t' =>
      cases t'
      cases r
      exact ⟨a, ws, _, _, rfl, rfl, ha, by rw [← t.length]; exact z.1, z.2.1, z.2.2, put_lst s hn (((t.take _).append (.one r2)).append (t.drop _)) .non h⟩
    · exact h.elim
  · exact h.elim

/-! ### dicts -/
def keyOf : D → Option Key
  | .int i => some (.inl i)
  | .str x => some (.inr x)
  | _ => none
def valD (kvs : List (Key × D)) (k : Key) : Option D := (kvs.find? fun kv => decide (kv.1 = k)).map (·.2)
def putD (kvs : List (Key × D)) (k : Key) (v : D) : List (Key × D) :=
  if (kvs.any fun p => decide (p.1 = k)) = true then kvs.map (fun p => if p.1 = k then (p.1, v) else p) else kvs ++ [(k, v)]
theorem KVs.val {W : Wd} {ρ : List Addr} {H : Hp} {kvs : List (Key × D)} {ws : List (Key × V)} (r : KVs W ρ H kvs ws) (k : Key) :
    match valD kvs k with
    | some d => ∃ v, valV ws k = some v ∧ Rel W ρ H d v
    | none => valV ws k = none := by
  unfold KVs at r
  induction r with
  | nil => rfl
  | @cons p q ps qs h t ih =>
    by_cases e : p.1 = k
    · have e1 : valD (p :: ps) k = some p.2 := by simp [valD, e]
      rw [e1, valV_pos (h.1 ▸ e)]
      exact ⟨_, rfl, h.2⟩
    · have e1 : valD (p :: ps) k = valD ps k := by simp [valD, e]
      rw [e1, valV_neg (h.1 ▸ e)]
      exact ih
theorem KVs.any {W : Wd} {ρ : List Addr} {H : Hp} {kvs : List (Key × D)} {ws : List (Key × V)} (r : KVs W ρ H kvs ws) (k : Key) : (kvs.any fun kv => decide (kv.1 = k)) = (ws.any fun kv => decide (kv.1 = k)) := by
  unfold KVs at r
  induction r with
  | nil => rfl
  | cons h t ih => rw [List.any_cons, List.any_cons, ih, h.1]
theorem KVs.over {W : Wd} {ρ : List Addr} {H : Hp} {kvs : List (Key × D)} {ws : List (Key × V)} {d : D} {v : V} (r : KVs W ρ H kvs ws) (k : Key) (rd : Rel W ρ H d v) :
    KVs W ρ H (kvs.map (fun kv => if kv.1 = k then (kv.1, d) else kv)) (ws.map (fun kv => if kv.1 = k then (kv.1, v) else kv)) := by
  unfold KVs at r
  induction r with
  | nil => exact .nil
  | @cons p q ps qs h t ih =>
    refine .cons ?_ ih
    dsimp only
    by_cases e : p.1 = k
    · rw [if_pos e, if_pos (h.1 ▸ e)]; exact ⟨h.1, rd⟩
    · rw [if_neg e, if_neg (h.1 ▸ e)]; exact h
theorem KVs.last {W : Wd} {ρ : List Addr} {H : Hp} {kvs : List (Key × D)} {ws : List (Key × V)} {d : D} {v : V} (r : KVs W ρ H kvs ws) (k : Key) (rd : Rel W ρ H d v) : KVs W ρ H (kvs ++ [(k, d)]) (ws ++ [(k, v)]) := by
  unfold KVs at r
  induction r with
  | nil => exact .cons ⟨rfl, rd⟩ .nil
  | cons h t ih => exact .cons h ih
theorem KVs.put {W : Wd} {ρ : List Addr} {H : Hp} {kvs : List (Key × D)} {ws : List (Key × V)} {d : D} {v : V} (r : KVs W ρ H kvs ws) (k : Key) (rd : Rel W ρ H d v) : KVs W ρ H (putD kvs k d) (putK ws k v) := by
  unfold putD putK
  rw [r.any k]
  split
  · exact r.over k rd
  · exact r.last k rd
theorem keyOf_rel {W : Wd} {ρ : List Addr} {H : Hp} {d : D} {v : V} {k : Key} (r : Rel W ρ H d v) (e : keyOf d = some k) : v = kV k := by
  cases r <;> cases e <;> rfl
def dctOf (st : Sto) : D → Option (Nat × List (Key × D))
  | .loc n => match st[n]? with
    | some (.dct kvs) => some (n, kvs)
    | _ => none
  | _ => none
theorem dctOf_rel {av : List Addr} {ρ : List Addr} {H : Hp} {st : Sto} (s : SR ⟨K, mg, av⟩ ρ H st) {d : D} {v : V} {n : Nat} {xs : List (Key × D)} (r : Rel ⟨K, mg, av⟩ ρ H d v) (e : dctOf st d = some (n, xs)) :
    ∃ a ws, v = .ref a ∧ ρ[n]? = some a ∧ H a = some (.dK ws) ∧ KVs ⟨K, mg, av⟩ ρ H xs ws := by
  unfold dctOf at e
  split at e
  · rename_i m
    split at e
    · rename_i ys q
      cases e
      cases r with | loc h =>
      obtain ⟨vs, h1, t⟩ := s.at_ _ _ _ h q
      exact ⟨_, vs, rfl, h, h1, t⟩
    · cases e
  · cases e
def dgetD (a b : D) (st : Sto) : R D :=
  match dctOf st a, keyOf b with
  | some (_, kvs), some k => R.of (valD kvs k) st
  | _, _ => .no
/-- a[b]: lists, tuples, texts; dicts with words -/
def ixD (a b : D) (st : Sto) : R D := match b with
  | .str _ => dgetD a b st
  | _ => ixD0 a b st
def rIxC : R2 := fun x y H Q => ∃ a v, x = .ref a ∧ L2.DGet H a y (some v) ∧ Q v H
theorem ix_dct {X : Cx} (hu : X.A.units + 1 < cLine) : L2.IxR X rIxC := by
  intro value slice pins s σ H x y v u Q I rx ry h hs
  obtain ⟨a, z, rfl, g, q⟩ := h
  obtain rfl : v = Value.ref a := rx
  have hT := L2.dict_typeIs I g
  unfold subscriptTail
  refine wpAny_bind ?_
  rw [getitemInPython_of_ne hT.not_modules]
  refine wpAny_bind (wpAny_specialOf hT PySem.F.slot_dict_getitem.lookup ?_)
  have fin : wpAny (model X.prog X.w) X.A (subscripted slice false (.ref a) u) (fun r s₃ => wpAny (model X.prog X.w) X.A (letTemporaryGo value (.ref a) r >>= fun _ => pure r) (EP X pins σ Q) X.xe s₃) X.xe s := by
    rw [hs]
    exact wpAny_operating (L2.d_getItem hu I g ry fun w' s3 I3 rw' => wpAny_bind (wpAny_letTemporaryGo (wpAny_pure ⟨z, H, I3, rw', q⟩)))
  first
    | exact wpAny_pure (wpAny_bind fin)
    | exact wpAny_bind (wpAny_pure (wpAny_bind fin))
    | exact wpAny_bind fin
def rIxE (K : PySem.W.Frag) : R2 := fun x y H Q => L2.rIx K x y H Q ∨ rIxC x y H Q
theorem snd_ix : SndO K mg (rIxE K) ixD := by
  intro av E ρ H st Q a b x y s ra rb h
  unfold ixD at h
  split at h
  · unfold dgetD at h
    split at h
    · rename_i n kvs k e1 e2
      obtain ⟨p, ws, rfl, hn, hp, t⟩ := dctOf_rel s ra e1
      obtain rfl := keyOf_rel rb e2
      have g := t.val k
      unfold R.of at h
      cases z : valD kvs k with
      | none => rw [z] at h; exact h.elim
      | some d =>
        rw [z] at h g
        obtain ⟨v, g1, g2⟩ := g
        exact .inr ⟨p, v, rfl, .inl ⟨ws, k, .inl hp, rfl, g1.symm⟩, h.ok s g2⟩
    · exact h.elim
  · exact .inl (snd_ix0 av E ρ H st Q a b x y s ra rb h)
def mDGet (a b : EM) : EM := fun e st => (a e st).bind fun x st1 => (b e st1).bind fun y st2 => dgetD x y st2
theorem snd_dget {ta tb : TE} {a b : EM} (ha : SndE K mg ta Wx a) (hb : SndE K mg tb Wx b) : SndE K mg (tDGet ta tb) Wx (mDGet a b) := by
  intro av σ e ρ H st Q s er h
  refine ha av σ e ρ H st _ s er ((Post.bind h).imp ?_)
  rintro v H1 ⟨x, ρ1, st1, x1, s1, r1, q1⟩
  refine hb av σ e ρ1 H1 st1 _ s1 (er.ext x1) ((Post.bind q1).imp ?_)
  rintro w H2 ⟨y, ρ2, st2, x2, s2, r2, q2⟩
  unfold dgetD at q2
  split at q2
  · rename_i n kvs k e1 e2
    obtain ⟨p, ws, rfl, hn, hp, t⟩ := dctOf_rel s2 (r1.ext x2) e1
    obtain rfl := keyOf_rel r2 e2
    have g := t.val k
    unfold R.of at q2
    cases z : valD kvs k with
    | none => rw [z] at q2; exact q2.elim
    | some d =>
      rw [z] at q2 g
      obtain ⟨u, hu, ru⟩ := g
      exact ⟨p, u, rfl, by rw [← hu]; exact .k hp, q2.ok s2 ru⟩
  · exact q2.elim
/-- written pairs -/
def mPairs : List (EM × EM) → Sl → Sto → R (List (Key × D))
  | [], _, st => .ok [] st
  | (k, v) :: r, e, st => (k e st).bind fun x st1 => (v e st1).bind fun y st2 => match keyOf x with
    | some kk => (mPairs r e st2).bind fun l st3 => .ok ((kk, y) :: l) st3
    | none => .no
def mergeD (kvs : List (Key × D)) (more : List (Key × D)) : List (Key × D) := more.foldl (fun acc kv => putD acc kv.1 kv.2) kvs
def mDict (ps : List (EM × EM)) : EM := fun e st => (mPairs ps e (st ++ [.dct []])).bind fun l st2 => match st2[st.length]? with
  | some (.dct []) => if l.length ≤ 15 then .ok (.loc st.length) (st2.set st.length (.dct (mergeD [] l))) else .no
  | _ => .no
theorem KVs.merge {W : Wd} {ρ : List Addr} {H : Hp} {m : List (Key × D)} {m' : List (Key × V)} (r : KVs W ρ H m m') : ∀ {kvs : List (Key × D)} {ws : List (Key × V)}, KVs W ρ H kvs ws → KVs W ρ H (mergeD kvs m) (mergeK ws m') := by
  unfold KVs at r
  induction r with
  | nil => intro kvs ws q; exact q
  | @cons p q ps qs h t ih =>
    intro kvs ws r0
    show KVs W ρ H (mergeD (putD kvs p.1 p.2) ps) (mergeK (putK ws q.1 q.2) qs)
    rw [← h.1]
    exact ih (r0.put p.1 h.2)
def SndPs (K : PySem.W.Frag) (mg : Str → Option Value) (trs : List (TE × TE)) (Wx : WX) (ps : List (EM × EM)) : Prop :=
  ∀ av σ e ρ H st (Q : List (V × V) → Hp → Prop), SR ⟨K, mg, av⟩ ρ H st → ER ⟨K, mg, av⟩ ρ H e σ →
    Post ⟨K, mg, av⟩ (fun ρ H (l : List (Key × D)) (m : List (V × V)) => ∃ ws : List (Key × V), m = ws.map (fun kv => (kV kv.1, kv.2)) ∧ KVs ⟨K, mg, av⟩ ρ H l ws) (fun c d H => Wx c d σ H) ρ H Q (mPairs ps e st) → tPairs trs σ H Q
theorem snd_pnil : SndPs K mg [] Wx [] := by
  intro av σ e ρ H st Q s er h
  exact h.ok s ⟨[], rfl, .nil⟩
theorem snd_pcons {tk tv : TE} {trs : List (TE × TE)} {k v : EM} {ps : List (EM × EM)} (hk : SndE K mg tk Wx k) (hv : SndE K mg tv Wx v) (hr : SndPs K mg trs Wx ps) : SndPs K mg ((tk, tv) :: trs) Wx ((k, v) :: ps) := by
  intro av σ e ρ H st Q s er h
  refine hk av σ e ρ H st _ s er ((Post.bind h).imp ?_)
  rintro w H1 ⟨x, ρ1, st1, x1, s1, r1, q1⟩
  refine hv av σ e ρ1 H1 st1 _ s1 (er.ext x1) ((Post.bind q1).imp ?_)
  rintro u H2 ⟨y, ρ2, st2, x2, s2, r2, q2⟩
  split at q2
  · rename_i kk e1
    obtain rfl := keyOf_rel (r1.ext x2) e1
    refine hr av σ e ρ2 H2 st2 _ s2 ((er.ext x1).ext x2) ((Post.bind q2).imp ?_)
    rintro m H3 ⟨l, ρ3, st3, x3, s3, ⟨ws, rfl, t⟩, q3⟩
    exact q3.ok s3 ⟨(kk, u) :: ws, rfl, .cons ⟨rfl, r2.ext x3⟩ t⟩
  · exact q2.elim
theorem snd_dict {trs : List (TE × TE)} {ps : List (EM × EM)} (hp : SndPs K mg trs Wx ps) : SndE K mg (tDisp trs) Wx (mDict ps) := by
  intro av σ e ρ H st Q s er h
  intro p np
  have x0 : Ext ρ H (ρ ++ [p]) (upd H p (.dK [])) := .push np
  have s0 : SR ⟨K, mg, av⟩ (ρ ++ [p]) (upd H p (.dK [])) (st ++ [.dct []]) := s.push np ⟨[], upd_same, .nil⟩
  refine hp av σ e _ _ _ _ s0 (er.ext x0) ((Post.bind (h.ext x0)).imp ?_)
  rintro m H2 ⟨l, ρ2, st2, x2, s2, ⟨ws, rfl, t⟩, q2⟩
  split at q2
  · rename_i e2
    split at q2
    · rename_i z
      have hn : ρ2[st.length]? = some p := by
        obtain ⟨l2, rfl, _⟩ := x2.more
        rw [List.getElem?_append_left (by simp [s.len]), ← s.len, List.getElem?_append_right (Nat.le_refl _), Nat.sub_self]
        rfl
      obtain ⟨us, h2, t2⟩ := s2.at_ _ p _ hn e2
      cases t2
      have lw : l.length = ws.length := Paired.length t
      refine ⟨h2, ws, rfl, by rw [← lw]; exact z, ?_⟩
      have x3 : Ext ρ2 H2 ρ2 (upd H2 p (.dK (mergeK [] ws))) := .put hn
      exact q2 _ ρ2 _ x3 (s2.put hn ⟨_, upd_same, (KVs.merge t .nil).ext x3⟩) (.loc hn)
    · exact q2.elim
  · exact q2.elim
end
/-! ### the first place of an equal item -/
def indexD (x y : D) (st : Sto) : R D := match view st x, view st y with
  | some (.list ds), some d => if lay (.list ds) && lay d then match ds.findIdx? (fun z => PyData.eqv z d) with
      | some j => .ok (.int (j : Nat)) st
      | none => .no
    else .no
  | _, _ => .no
def mIndex (o m : EM) : EM := fun e st => (o e st).bind fun x st1 => match items st1 x with
  | some _ => (mL [m] e st1).bind fun ys st2 => match ys with
    | [y] => indexD x y st2
    | _ => .no
  | none => .no
theorem snd_index {K : PySem.W.Frag} {mg : Str → Option Value} {Wx : WX} {to : TE} {ta : TA} {o m : EM} (ho : SndE K mg to Wx o) (ha : SndL K mg ta Wx (mL [m])) : SndE K mg (tBM K "list" (rIndexD K) to ta) Wx (mIndex o m) := by
  intro av σ e ρ H st Q s er h
  refine ho av σ e ρ H st _ s er ((Post.bind h).imp ?_)
  rintro v H1 ⟨d, ρ1, st1, x1, s1, r1, q1⟩
  split at q1
  · rename_i xs e1
    obtain ⟨a, vs, rfl, h1, _⟩ := r1.list s1 e1
    refine ⟨.inl ⟨rfl, vs, h1⟩, ?_⟩
    refine ha av σ e ρ1 H1 st1 _ s1 (er.ext x1) ((Post.bind q1).imp ?_)
    rintro ws H2 ⟨ds, ρ2, st2, x2, s2, r2, q2⟩
    split at q2
    · rename_i y
      cases r2 with | cons ry t =>
      cases t
      unfold indexD at q2
      split at q2
      · rename_i ps p e2 e3
        split at q2
        · rename_i c
          obtain ⟨c1, c2⟩ := Bool.and_eq_true_iff.mp c
          split at q2
          · rename_i j ej
            obtain ⟨jl, hj, hno⟩ := List.findIdx?_eq_some_iff_getElem.mp ej
            have v1 := (r1.ext x2).view s2 e2 (Bool.and_eq_true_iff.mp c1).1
            refine ⟨a, _, p, ps, j, ps[j], rfl, rfl, v1, ry.view s2 e3 (Bool.and_eq_true_iff.mp c2).1, c1, c2, List.getElem?_eq_getElem jl, hj, fun m z' hm hz => ?_, q2.ok s2 (.int _)⟩
            obtain ⟨ml, rfl⟩ := List.getElem?_eq_some_iff.mp hz
            have z := hno m hm
            simpa using z
          · exact q2.elim
        · exact q2.elim
      · exact q2.elim
    · exact q2.elim
  · exact q1.elim
end DX

/-! DxEn: enumerate over a tuple. -/
set_option linter.all false
set_option maxRecDepth 100000
set_option Elab.async false
namespace DX
open PySem PySem.Spec PyProof.Rows L2
open PySem.AutoSeq1 (wpAny_loadPart')
theorem enum_new_tuple (l : Addr) (its : Array Value) (n : Nat) (dd : Option Addr) (sl : Array (Option Value)) :
    Meets (Builtin.«enumerate.__new__» ⟨[.type "enumerate", .ref l], []⟩) (fun _ R s => s.heap.get? l = some { cls := .type "tuple", dict := dd, data := .seq its n, slots := sl } ∧
      R (.ok (.ret (.ref (s.heap.push { cls := .type "tuple_iterator", data := .fields #[.ref l, .int 0 0] }).objs.size)))
        { s with heap := (s.heap.push { cls := .type "tuple_iterator", data := .fields #[.ref l, .int 0 0] }).push { cls := .type "enumerate", data := .fields #[.none, .bool false, .ref s.heap.objs.size, rawInt 0, .none, .none] } }) :=
  .of_wp fun prog w A R s h => by
    obtain ⟨hp, g, d, tk, os⟩ := s
    obtain ⟨hl, h⟩ := h
    have sub := sub_enumerate
    have T : Heap.IsTuple (Shared.heap ⟨hp, g, d, tk, os⟩) l its := ⟨_, hl, rfl, n, rfl⟩
    wp_walk using wpAny_loadPart' hl
    refine wpAny_stack_any fun st => wpAny_pure ?_
    split
    · rename_i c _ _ _ _ _
      cases (c == Value.type "enumerate") <;> (wp_walk using wpAny_loadPart' hl, wpAny_pyIter_tuple T; exact ⟨_, rfl, h⟩)
    · wp_walk using wpAny_loadPart' hl, wpAny_pyIter_tuple T
      exact ⟨_, rfl, h⟩
section
variable {prog : Program} {w : World} {A : Around} {E : Value → Shared → Prop} {s : Shared}
theorem call_enumT {l : Addr} {its : Array Value} {Q : Value → Shared → Prop} (T : s.heap.IsTuple l its)
    (h : ∀ h', IsEnum h' (s.heap.objs.size + 1) s.heap.objs.size 0 .none → h'.IsTupleIter s.heap.objs.size l 0 → h'.objs.size = s.heap.objs.size + 2 →
      (∀ c o, s.heap.get? c = some o → h'.get? c = some o) → Q (.ref (s.heap.objs.size + 1)) { s with heap := h' }) :
    wpAny (model prog w) A (call (.type "enumerate") [.ref l]) Q E s := by
  obtain ⟨⟨c, dct, dt, sl⟩, hl, hc, n, hd⟩ := T
  obtain rfl : c = .type "tuple" := hc
  obtain rfl : dt = .seq its n := hd
  refine callType_new F.called_enumerate (by decide) (F.typeCall_enumerate_1 _) (F.newCall_enumerate_1 _) (fun obj => F.args_object_init_2 obj _) F.entry_enumerate_new (enum_new_tuple l its n dct sl) ⟨hl, ?_⟩
  have one : (s.heap.push { cls := .type "tuple_iterator", data := .fields #[.ref l, .int 0 0] }).objs.size = s.heap.objs.size + 1 := Heap.size_push ..
  show _ ∧ _
  rw [one]
  have made : IsEnum ((s.heap.push { cls := .type "tuple_iterator", data := .fields #[.ref l, .int 0 0] }).push { cls := .type "enumerate", data := .fields #[.none, .bool false, .ref s.heap.objs.size, rawInt 0, .none, .none] }) (s.heap.objs.size + 1) s.heap.objs.size 0 .none := by
    have at_ := Heap.get?_push_size (s.heap.push { cls := .type "tuple_iterator", data := .fields #[.ref l, .int 0 0] }) (o := { cls := .type "enumerate", data := .fields #[.none, .bool false, .ref s.heap.objs.size, rawInt 0, .none, .none] }) rfl
    rw [one] at at_
    exact at_
  exact ⟨⟨_, made, rfl⟩, h _ made ⟨_, Heap.get?_push_of_some _ (Heap.get?_push_size _ rfl), rfl, rfl⟩ (by rw [Heap.size_push, one]) fun b o x => Heap.get?_push_of_some _ (Heap.get?_push_of_some _ x)⟩
end
/-- the tuple at a, each item in a new pair -/
def ItT (K : PySem.W.Frag) (a : Addr) : It :=
  ⟨fun i H => ∃ (xs : List V) (x : V), SqT K H a xs ∧ xs[i]? = some x, fun i H v H' => ∃ T x, v = .ref T ∧ H T = none ∧ H' = upd H T (.tup [.int (i : Nat), x]) ∧ ∀ xs, SqT K H a xs → xs[i]? = some x, fun i H => ∃ xs : List V, SqT K H a xs ∧ xs.length ≤ i⟩
theorem enumT_end {prog : Program} {w : World} {A : Around} {E : Value → Shared → Prop} {s : Shared} {e it t : Addr} {i : Nat} {its : Array Value} {c : Int} {old : Value} {Q : Option Value → Shared → Prop} (hh : A.in1.handled = none)
    (he : IsEnum s.heap e it c old) (hit : s.heap.IsTupleIter it t i) (ht : s.heap.IsTuple t its) (hx : its[i]? = none) (hQ : ∀ h', Heap.ExtBut it s.heap h' → Q none { s with heap := h' }) : wpAny (model prog w) A (pyNext (.ref e)) Q E s := by
  have ty : s.TypeIs (.ref e) "enumerate" := ⟨_, he, rfl⟩
  unfold pyNext
  refine wpAny_bind (wpAny_attempt (wpAny_callSpecial?_slot (name := Str.ofString "__next__") ty F.slot_enumerate_next (wpAny_call_entry F.slot_enumerate_next ty F.entry_enumerate_next ?_ (F.args_enumerate_next_1 _))))
  show wpAny _ _ (field (.ref e) 2 >>= _) _ _ s
  refine wpAny_bind (wpAny_field he rfl (x := .ref it) rfl (wpAny_bind (wpAny_nextOf_tuple_end hh hit ht hx fun h' x ext stop => ?_)))
  obtain ⟨o, ho, hc⟩ := stop
  exact wpAny_bind (wpAny_isInstance (T := "StopIteration") (b := true) ⟨o, ho, hc⟩ isSubtype_stop (wpAny_pure (hQ _ ext)))
theorem turn_enumT {P : Program} {w : World} {K : PySem.W.Frag} {elts : List Expr} {kk : Nat} {tpos : Pos} (a e it : Addr) :
    Turn P w K (.Tuple elts kk tpos) (ItT K a) [e, it] e (fun i h => (∃ old, IsEnum h e it ((i : Nat) : Int) old) ∧ h.IsTupleIter it a i ∧ e ≠ it) where
  mem := by simp
  obj := fun i h st b hb => by
    obtain ⟨⟨old, he⟩, ⟨o, ho, hc, hd⟩, _⟩ := st
    rcases (by simpa using hb : b = e ∨ b = it) with rfl | rfl
    · exact ⟨_, he, fun v q => nomatch q⟩
    · exact ⟨o, ho, fun v q => by rw [hd] at q; cases q⟩
  keep := fun i h h' st k => ⟨st.1.imp fun _ he => k e (by simp) _ he, st.2.1.at fun o q => k it (by simp) o q, st.2.2⟩
  item := by
    rintro X rfl rfl rfl hc i pins s σ H E I hf ⟨⟨old, he⟩, hit, hne⟩ ⟨xs, x, hq, hx⟩
    obtain ⟨its, rv, p, hz⟩ := I.tuple hq
    obtain ⟨u, hu, ru⟩ := rv.get hx
    have el : e < s.heap.objs.size := Heap.lt_size he
    have il : it < s.heap.objs.size := by obtain ⟨_, q, _⟩ := hit; exact Heap.lt_size q
    have ai : a ≠ it := by
      rintro rfl
      obtain ⟨o, ho, oc, _⟩ := p
      obtain ⟨o', ho', oc', _⟩ := hit
      rw [ho] at ho'; cases ho'
      rw [oc] at oc'
      exact absurd oc' (by simp)
    have ae : a ≠ e := by
      rintro rfl
      obtain ⟨o, ho, oc, _⟩ := p
      rw [show s.heap.get? a = some _ from he] at ho; cases ho
      exact absurd oc (by simp)
    refine wpAny_pyNext_enum_itemD (Draws.tuple (prog := X.prog) (w := X.w) (A := X.A.in1) (show X.A.in1.handled = none from I.ok.hd hc) it a ai its.toArray) he ⟨hit, p⟩ (by have := (List.getElem?_eq_some_iff.mp hu).1; simpa using this) hne (by simp [hne, Ne.symm ae]) fun y h1 tk hP ho hs1 hT hsz hk => ?_
    obtain rfl : u = y := Option.some.inj (hu.symm.trans (by simpa using hP))
    refine ⟨_, rfl, wpAny_letOwnedTupleGo_enum (s := { s with heap := h1, toks := tk + 1 }) ho fun h2 he2 sb => ?_⟩
    have hT2 : h2.get? s.heap.objs.size = some { cls := .type "tuple", data := .seq #[.int i tk, u] } := (sb.2 _ (Nat.ne_of_gt el)).trans hT
    have new : ObjOk X.prog X.w (upd H s.heap.objs.size (.tup [.int (i : Nat), x])) h2 s.heap.objs.size (.tup [.int (i : Nat), x]) :=
      ⟨show 2 ≤ sizeLine by decide, [.int i tk, u], .cons ⟨_, rfl⟩ (.cons ru .nil), ⟨_, hT2, rfl, _, rfl⟩⟩
    have J : Inv X pins σ (upd H s.heap.objs.size (.tup [.int (i : Nat), x])) { s with heap := h2, toks := tk + 1 } :=
      I.turnedNew (ch := [e, it]) (fun b ob nb q => (sb.2 b (fun z => nb (by simp [z]))).trans (hk b ob (fun z => nb (by simp [z])) (fun z => nb (by simp [z])) q)) hf (Nat.le_refl _) new
    refine ⟨.ref s.heap.objs.size, _, J, rfl, ⟨_, x, rfl, I.hok.fresh (Nat.le_refl _), rfl, fun ys hy => by rw [I.tuple_inj hy hq]; exact hx⟩, ⟨⟨u, ?_⟩, hs1.1.at fun o q => (sb.2 it (Ne.symm hne)).trans q, hne⟩, fun b hb => ?_⟩
    · rw [show ((i + 1 : Nat) : Int) = (i : Int) + 1 by omega]; exact he2
    · have small : b < s.heap.objs.size := by
        rcases (by simpa using hb : b = e ∨ b = it) with rfl | rfl
        · exact el
        · exact il
      rw [upd_ne (Nat.ne_of_lt small)]
      exact (hf b hb).1
  done := by
    rintro X rfl rfl rfl hc i pins s σ H E I hf ⟨⟨old, he⟩, hit, hne⟩ ⟨xs, hq, hx⟩
    obtain ⟨its, rv, p, hz⟩ := I.tuple hq
    obtain ⟨f0, f1, f2, f3, f4, f5⟩ := hf it (by simp)
    have hl := rv.length
    exact enumT_end (show X.A.in1.handled = none from I.ok.hd hc) he hit p (by simp; omega) fun h' eb => ⟨rfl, I.turned (t' := s.toks) (fun b o hb q => eb b o hb q) f0 f1 f3 f4 f5⟩
  self := fun A i s Q E st h => st.1.elim fun _ he => wpAny_pyIter_enum he h
def iEnumT (K : PySem.W.Frag) (ta : TA) : TI := fun σ H R => ta σ H fun vs H1 => ∃ a, vs = [.ref a] ∧ (((∃ xs, SqL K H1 a xs) ∧ R (Ite K a) H1) ∨ ((∃ xs, SqT K H1 a xs) ∧ R (ItT K a) H1))
theorem pi_enumT {X : Cx} {e : Expr} {ta : TA} {p pos tpos : Pos} {elts : List Expr} {kk : Nat} (hg : Gl X "enumerate") (hm : X.mg "enumerate" = none) (ha : PA X [e] ta) (hs : starEach [e] X.env = [(false, eval e X.env)] := by rfl) :
    PI X (.Tuple elts kk tpos) (.Call (.Name "enumerate" p) [e] [] pos) (iEnumT X.K ta) := by
  refine ⟨fun pins s σ H R I h => ?_⟩
  refine Call_ (ld_blt I hg hm boot_enumerate (PyProof.Rows.callWith_type1 (thn (ha.run pos pins s σ H _ I h) fun given s1 ⟨vs, H1, I1, r1, q1⟩ => ?_) hs rfl))
  obtain ⟨a, rfl, q⟩ := q1
  obtain ⟨_, rfl, r⟩ := r1.one
  cases r
  have news : ∀ {b : Addr}, b ∈ [s1.heap.objs.size + 1, s1.heap.objs.size] → s1.heap.objs.size ≤ b := fun hb => by
    rcases List.mem_cons.mp hb with rfl | hb
    · exact Nat.le_add_right _ _
    · rw [List.mem_singleton.mp hb]; exact Nat.le_refl _
  rcases q with ⟨⟨xs, hq⟩, q⟩ | ⟨⟨xs, hq⟩, q⟩
  · obtain ⟨its, rv, pl, hz⟩ := I1.list hq
    refine call_enumerate_list pl.isList fun h' he hit hsz hk => wpAny_pyIter_enum he ?_
    exact ⟨s1.heap.objs.size + 1, [s1.heap.objs.size + 1, s1.heap.objs.size], _, _, H1, rfl, I1.kept (t' := s1.toks) hk, turn_enum a (s1.heap.objs.size + 1) s1.heap.objs.size, ⟨⟨.none, he⟩, hit, Nat.succ_ne_self _⟩, fun b hb => I1.fpOk (news hb) (I1.hok.fresh (news hb)), q⟩
  · obtain ⟨its, rv, pl, hz⟩ := I1.tuple hq
    refine call_enumT pl fun h' he hit hsz hk => wpAny_pyIter_enum he ?_
    exact ⟨s1.heap.objs.size + 1, [s1.heap.objs.size + 1, s1.heap.objs.size], _, _, H1, rfl, I1.kept (t' := s1.toks) hk, turn_enumT a (s1.heap.objs.size + 1) s1.heap.objs.size, ⟨⟨.none, he⟩, hit, Nat.succ_ne_self _⟩, fun b hb => I1.fpOk (news hb) (I1.hok.fresh (news hb)), q⟩
end DX

/-! DxH: statements, loops. -/
set_option linter.all false
set_option maxRecDepth 100000
set_option Elab.async false
namespace DX
open PySem PySem.Spec PyProof.Rows L2

/-- what a statement comes to -/
inductive RS where
  | nx (e : Sl) (st : Sto)
  | bk (e : Sl) (st : Sto)
  | ct (e : Sl) (st : Sto)
  | rt (d : D) (st : Sto)
  | exc (c : Str) (fs : List (Str × D)) (e : Sl) (st : Sto)
  | no
abbrev SM := Sl → Sto → RS
/-- an evaluation within a statement -/
def R.s {α : Type} (r : R α) (e : Sl) (f : α → Sto → RS) : RS :=
  match r with
  | .ok a st => f a st
  | .exc c fs st => .exc c fs e st
  | .no => .no
def RS.seq (r : RS) (f : Sl → Sto → RS) : RS :=
  match r with
  | .nx e st => f e st
  | r => r
def PostS (W : Wd) (Wx : WX) (D : Ends) (ρ : List Addr) (H : Hp) : RS → Prop
  | .nx e st' => ∀ σ' ρ' H', Ext ρ H ρ' H' → SR W ρ' H' st' → ER W ρ' H' e σ' → D.nx σ' H'
  | .bk e st' => ∀ σ' ρ' H', Ext ρ H ρ' H' → SR W ρ' H' st' → ER W ρ' H' e σ' → D.bk σ' H'
  | .ct e st' => ∀ σ' ρ' H', Ext ρ H ρ' H' → SR W ρ' H' st' → ER W ρ' H' e σ' → D.ct σ' H'
  | .rt d st' => ∀ v ρ' H', Ext ρ H ρ' H' → SR W ρ' H' st' → Rel W ρ' H' d v → D.rt v H'
  | .exc c fs e st' => ∀ cls dd σ' ρ' H', Ext ρ H ρ' H' → SR W ρ' H' st' → ER W ρ' H' e σ' → ExcR W ρ' H' c fs cls dd → Wx cls dd σ' H'
  | .no => False
section
variable {W : Wd} {Wx : WX} {Ds : Ends} {ρ ρ1 : List Addr} {H H1 : Hp} {r : RS}
theorem PostS.ext (h : PostS W Wx Ds ρ H r) (x : Ext ρ H ρ1 H1) : PostS W Wx Ds ρ1 H1 r := by
  cases r with
  | nx e st => exact fun σ' ρ' H' y s q => h σ' ρ' H' (x.trans y) s q
  | bk e st => exact fun σ' ρ' H' y s q => h σ' ρ' H' (x.trans y) s q
  | ct e st => exact fun σ' ρ' H' y s q => h σ' ρ' H' (x.trans y) s q
  | rt d st => exact fun v ρ' H' y s q => h v ρ' H' (x.trans y) s q
  | exc c fs e st => exact fun cls dd σ' ρ' H' y s q z => h cls dd σ' ρ' H' (x.trans y) s q z
  | no => exact h
/-- an evaluation, then the rest -/
theorem PostS.s {α β : Type} {rel : List Addr → Hp → α → β → Prop} {e : Sl} {σ : L2.St} {q : R α} {f : α → Sto → RS} (er : ER W ρ H e σ) (h : PostS W Wx Ds ρ H (q.s e f)) :
    Post W rel (fun c d H => Wx c d σ H) ρ H (fun b H1 => ∃ a ρ1 st1, Ext ρ H ρ1 H1 ∧ SR W ρ1 H1 st1 ∧ rel ρ1 H1 a b ∧ PostS W Wx Ds ρ1 H1 (f a st1)) q := by
  cases q with
  | ok a st =>
    intro b ρ1 H1 x s z
    exact ⟨a, ρ1, st, x, s, z, PostS.ext (show PostS W Wx Ds ρ H (f a st) from h) x⟩
  | exc c fs st => exact fun cls dd ρ' H' x s z => h cls dd σ ρ' H' x s (er.ext x) z
  | no => exact h
/-- one statement, then the rest -/
theorem PostS.seq {f : Sl → Sto → RS} (h : PostS W Wx Ds ρ H (r.seq f)) :
    PostS W Wx { Ds with nx := fun σ1 H1 => ∃ e1 ρ1 st1, Ext ρ H ρ1 H1 ∧ SR W ρ1 H1 st1 ∧ ER W ρ1 H1 e1 σ1 ∧ PostS W Wx Ds ρ1 H1 (f e1 st1) } ρ H r := by
  cases r with
  | nx e st => exact fun σ' ρ' H' x s q => ⟨e, ρ', st, x, s, q, PostS.ext (show PostS W Wx Ds ρ H (f e st) from h) x⟩
  | bk e st => exact h
  | ct e st => exact h
  | rt d st => exact h
  | exc c fs e st => exact h
  | no => exact h
end
def SndS (K : PySem.W.Frag) (mg : Str → Option Value) (t : TS) (Wx : WX) (m : SM) : Prop :=
  ∀ av σ e ρ H st (Ds : Ends), SR ⟨K, mg, av⟩ ρ H st → ER ⟨K, mg, av⟩ ρ H e σ → PostS ⟨K, mg, av⟩ Wx Ds ρ H (m e st) → t Ds σ H
def DS (X : Cx) (s : Stmt) (m : SM) : Prop := ∀ Wx, Takes X Wx → ∃ t, PS X s t ∧ SndS X.K X.mg t Wx m
def DSs (X : Cx) (s : List Stmt) (m : SM) : Prop := ∀ Wx, Takes X Wx → ∃ t, PSs X s t ∧ SndS X.K X.mg t Wx m

section
variable {K : PySem.W.Frag} {mg : Str → Option Value} {Wx : WX}
def sNx : SM := fun e st => .nx e st
theorem snd_nx : SndS K mg tNext Wx sNx := by
  intro av σ e ρ H st Ds s er h
  exact h σ ρ H .refl s er
theorem snd_brk : SndS K mg tBreak Wx (fun e st => .bk e st) := by
  intro av σ e ρ H st Ds s er h
  exact h σ ρ H .refl s er
theorem snd_cont : SndS K mg tCont Wx (fun e st => .ct e st) := by
  intro av σ e ρ H st Ds s er h
  exact h σ ρ H .refl s er
def sSeq (a b : SM) : SM := fun e st => (a e st).seq b
theorem snd_seq {t u : TS} {a b : SM} (ha : SndS K mg t Wx a) (hb : SndS K mg u Wx b) : SndS K mg (tSeq t u) Wx (sSeq a b) := by
  intro av σ e ρ H st Ds s er h
  refine ha av σ e ρ H st _ s er ?_
  have h' := PostS.seq h
  cases q : a e st with
  | nx e1 st1 =>
    rw [q] at h'
    intro σ1 ρ1 H1 x1 s1 er1
    obtain ⟨e2, ρ2, st2, x2, s2, er2, z⟩ := h' σ1 ρ1 H1 x1 s1 er1
    exact hb av σ1 e2 ρ2 H1 st2 Ds s2 er2 z
  | bk e1 st1 => rw [q] at h'; exact h'
  | ct e1 st1 => rw [q] at h'; exact h'
  | rt d st1 => rw [q] at h'; exact h'
  | exc c fs e1 st1 => rw [q] at h'; exact h'
  | no => rw [q] at h'; exact h'
def sExpr (a : EM) : SM := fun e st => (a e st).s e fun _ st1 => .nx e st1
theorem snd_expr {te : TE} {a : EM} (ha : SndE K mg te Wx a) : SndS K mg (tDrop te) Wx (sExpr a) := by
  intro av σ e ρ H st Ds s er h
  refine ha av σ e ρ H st _ s er ((PostS.s er h).imp ?_)
  rintro v H1 ⟨d, ρ1, st1, x1, s1, r1, q1⟩
  exact q1 σ ρ1 H1 .refl s1 (er.ext x1)
def sRet (a : EM) : SM := fun e st => (a e st).s e fun d st1 => .rt d st1
theorem snd_ret {te : TE} {a : EM} (ha : SndE K mg te Wx a) : SndS K mg (tRet te) Wx (sRet a) := by
  intro av σ e ρ H st Ds s er h
  refine ha av σ e ρ H st _ s er ((PostS.s er h).imp ?_)
  rintro v H1 ⟨d, ρ1, st1, x1, s1, r1, q1⟩
  exact q1 v ρ1 H1 .refl s1 r1
theorem snd_retN : SndS K mg tRetN Wx (fun _ st => .rt .non st) := by
  intro av σ e ρ H st Ds s er h
  exact h .non ρ H .refl s .non
def sIf (c : TM) (a b : SM) : SM := fun e st => (c e st).s e fun k st1 => if k then a e st1 else b e st1
theorem snd_ifS {tc : TT} {t u : TS} {c : TM} {a b : SM} (hc : SndT K mg tc Wx c) (ha : SndS K mg t Wx a) (hb : SndS K mg u Wx b) : SndS K mg (tIfS tc t u) Wx (sIf c a b) := by
  intro av σ e ρ H st Ds s er h
  refine hc av σ e ρ H st _ s er ((PostS.s er h).imp ?_)
  rintro v H1 ⟨d, ρ1, st1, x1, s1, rfl, q1⟩
  cases d with
  | true => exact ha av σ e ρ1 H1 st1 Ds s1 (er.ext x1) q1
  | false => exact hb av σ e ρ1 H1 st1 Ds s1 (er.ext x1) q1

/-! ### targets -/
abbrev GM := D → Sl → Option Sl
def SndG (K : PySem.W.Frag) (mg : Str → Option Value) (g : TG) (m : GM) : Prop :=
  ∀ av σ e ρ H st d v e' (Q : L2.St → Hp → Prop), SR ⟨K, mg, av⟩ ρ H st → ER ⟨K, mg, av⟩ ρ H e σ → Rel ⟨K, mg, av⟩ ρ H d v → m d e = some e' → (∀ σ', ER ⟨K, mg, av⟩ ρ H e' σ' → Q σ' H) → g v σ H Q
def SndGs (K : PySem.W.Frag) (mg : Str → Option Value) (g : TGs) (m : List D → Sl → Option Sl) : Prop :=
  ∀ av σ e ρ H st ds vs e' (Q : L2.St → Hp → Prop), SR ⟨K, mg, av⟩ ρ H st → ER ⟨K, mg, av⟩ ρ H e σ → Rels ⟨K, mg, av⟩ ρ H ds vs → m ds e = some e' → (∀ σ', ER ⟨K, mg, av⟩ ρ H e' σ' → Q σ' H) → g vs σ H Q
def gmName (i : Nat) : GM := fun d e => some (e.set i (some d))
theorem snd_gname {i : Nat} : SndG K mg (gName i) (gmName i) := by
  intro av σ e ρ H st d v e' Q s er r h q
  cases h
  exact q _ (er.set i r)
def gmsNil : List D → Sl → Option Sl
  | [], e => some e
  | _, _ => none
theorem snd_gnil : SndGs K mg gNil gmsNil := by
  intro av σ e ρ H st ds vs e' Q s er r h q
  cases r with
  | nil => cases h; exact ⟨rfl, q σ er⟩
  | cons _ _ => cases h
def gmsCons (g : GM) (gs : List D → Sl → Option Sl) : List D → Sl → Option Sl
  | d :: ds, e => (g d e).bind (gs ds)
  | [], _ => none
theorem snd_gcons {g : TG} {gs : TGs} {m : GM} {ms : List D → Sl → Option Sl} (h1 : SndG K mg g m) (h2 : SndGs K mg gs ms) : SndGs K mg (gCons g gs) (gmsCons m ms) := by
  intro av σ e ρ H st ds vs e' Q s er r h q
  cases r with
  | nil => cases h
  | cons r t =>
    rename_i d ds v vs
    have h' : (m d e).bind (ms ds) = some e' := h
    cases z : m d e with
    | none => rw [z] at h'; cases h'
    | some e1 =>
      rw [z] at h'
      exact ⟨v, vs, rfl, h1 av σ e ρ H st d v e1 _ s er r z fun σ1 er1 => h2 av σ1 e1 ρ H st ds vs e' Q s er1 t h' q⟩
def gmTup (n : Nat) (gs : List D → Sl → Option Sl) : GM
  | .tup xs, e => if xs.length = n then gs xs e else none
  | _, _ => none
theorem snd_gtup {n : Nat} {gs : TGs} {ms : List D → Sl → Option Sl} (h2 : SndGs K mg gs ms) : SndG K mg (gTup K n gs) (gmTup n ms) := by
  intro av σ e ρ H st d v e' Q s er r h q
  cases d with
  | tup xs =>
    have h' : (if xs.length = n then ms xs e else none) = some e' := h
    by_cases z : xs.length = n
    · rw [if_pos z] at h'
      obtain ⟨a, vs, rfl, h1, rs⟩ := r.tuple
      exact ⟨a, vs, rfl, h1, by rw [← rs.length]; exact z, h2 av σ e ρ H st xs vs e' Q s er rs h' q⟩
    · rw [if_neg z] at h'; cases h'
  | _ => cases h
/-- target = value -/
def sAsg (a : EM) (g : GM) : SM := fun e st => (a e st).s e fun d st1 => match g d e with
  | some e' => .nx e' st1
  | none => .no
theorem snd_asg {te : TE} {g : TG} {a : EM} {m : GM} (ha : SndE K mg te Wx a) (hg : SndG K mg g m) : SndS K mg (tAsg te g) Wx (sAsg a m) := by
  intro av σ e ρ H st Ds s er h
  refine ha av σ e ρ H st _ s er ((PostS.s er h).imp ?_)
  rintro v H1 ⟨d, ρ1, st1, x1, s1, r1, q1⟩
  cases z : m d e with
  | none => rw [z] at q1; exact q1.elim
  | some e' =>
    rw [z] at q1
    exact hg av σ e ρ1 H1 st1 d v e' _ s1 (er.ext x1) r1 z fun σ' er' => q1 σ' ρ1 H1 .refl s1 er'
/-- a, b = x, y with plain local names -/
def sPar (i j : Nat) (a b : EM) : SM := fun e st => (mL [a, b] e st).s e fun ds st1 => match ds with
  | [x, y] => .nx ((e.set i (some x)).set j (some y)) st1
  | _ => .no
theorem snd_par {i j : Nat} {ta : TA} {a b : EM} (ha : SndL K mg ta Wx (mL [a, b])) : SndS K mg (tPar i j ta) Wx (sPar i j a b) := by
  intro av σ e ρ H st Ds s er h
  refine ha av σ e ρ H st _ s er ((PostS.s er h).imp ?_)
  rintro vs H1 ⟨ds, ρ1, st1, x1, s1, r1, q1⟩
  split at q1
  · rename_i x y
    cases r1 with | cons r t =>
    cases t with | cons r2 t =>
    cases t
    exact ⟨_, _, rfl, q1 _ ρ1 H1 .refl s1 (((er.ext x1).set i r).set j r2)⟩
  · exact q1.elim

/-! ### stores into objects -/
/-- d[k] = v -/
def sDPutM (a b v : EM) : SM := fun e st => (v e st).s e fun y st1 => (a e st1).s e fun x st2 => (b e st2).s e fun k st3 => match dctOf st3 x, keyOf k with
  | some (n, kvs), some kk => if kvs.length < sizeLine then .nx e (st3.set n (.dct (putD kvs kk y))) else .no
  | _, _ => .no
theorem snd_dput {ta tb tv : TE} {a b v : EM} (ha : SndE K mg ta Wx a) (hb : SndE K mg tb Wx b) (hv : SndE K mg tv Wx v) : SndS K mg (sDPut ta tb tv) Wx (sDPutM a b v) := by
  intro av σ e ρ H st Ds s er h
  refine hv av σ e ρ H st _ s er ((PostS.s er h).imp ?_)
  rintro w H1 ⟨y, ρ1, st1, x1, s1, r1, q1⟩
  refine ha av σ e ρ1 H1 st1 _ s1 (er.ext x1) ((PostS.s (er.ext x1) q1).imp ?_)
  rintro u H2 ⟨x, ρ2, st2, x2, s2, r2, q2⟩
  refine hb av σ e ρ2 H2 st2 _ s2 ((er.ext x1).ext x2) ((PostS.s ((er.ext x1).ext x2) q2).imp ?_)
  rintro k H3 ⟨kd, ρ3, st3, x3, s3, r3, q3⟩
  split at q3
  · rename_i n kvs kk e1 e2
    split at q3
    · rename_i z
      obtain ⟨p, ws, rfl, hn, hp, t⟩ := dctOf_rel s3 (r2.ext x3) e1
      obtain rfl := keyOf_rel r3 e2
      have rd := (r1.ext x2).ext x3
      have lw : kvs.length = ws.length := Paired.length t
      have y : Ext ρ3 H3 ρ3 (upd H3 p (.dK (putK ws kk w))) := .put hn
      exact ⟨p, _, rfl, .k hp (by rw [← lw]; exact z), q3 σ ρ3 _ y (s3.put hn ⟨_, upd_same, (t.put kk rd).ext y⟩) ((((er.ext x1).ext x2).ext x3).ext y)⟩
    · exact q3.elim
  · exact q3.elim
/-- xs[i] = v -/
def sLPutM (a b v : EM) : SM := fun e st => (v e st).s e fun y st1 => (a e st1).s e fun x st2 => (b e st2).s e fun k st3 => match lstOf st3 x, k with
  | some (n, xs), .int i => match ixN xs.length i with
    | some j => .nx e (st3.set n (.lst (xs.set j y)))
    | none => .no
  | _, _ => .no
theorem snd_lput {ta tb tv : TE} {a b v : EM} (ha : SndE K mg ta Wx a) (hb : SndE K mg tb Wx b) (hv : SndE K mg tv Wx v) : SndS K mg (tAsg tv (gSub ta tb rSetL)) Wx (sLPutM a b v) := by
  intro av σ e ρ H st Ds s er h
  refine hv av σ e ρ H st _ s er ((PostS.s er h).imp ?_)
  rintro w H1 ⟨y, ρ1, st1, x1, s1, r1, q1⟩
  refine ha av σ e ρ1 H1 st1 _ s1 (er.ext x1) ((PostS.s (er.ext x1) q1).imp ?_)
  rintro u H2 ⟨x, ρ2, st2, x2, s2, r2, q2⟩
  refine hb av σ e ρ2 H2 st2 _ s2 ((er.ext x1).ext x2) ((PostS.s ((er.ext x1).ext x2) q2).imp ?_)
  rintro k H3 ⟨kd, ρ3, st3, x3, s3, r3, q3⟩
  split at q3
  · rename_i n xs i e1
    split at q3
    · rename_i j e2
      obtain ⟨p, ws, rfl, hn, hp, t⟩ := lstOf_rel s3 (r2.ext x3) e1
      cases r3
      have rd := (r1.ext x2).ext x3
      have y : Ext ρ3 H3 ρ3 (upd H3 p (.lst (ws.set j w))) := .put hn
      exact ⟨p, ws, i, j, rfl, rfl, hp, by rw [← t.length]; exact e2, q3 σ ρ3 _ y (s3.put hn ⟨_, upd_same, (t.set rd j).ext y⟩) ((((er.ext x1).ext x2).ext x3).ext y)⟩
    · exact q3.elim
  · exact q3.elim

/-! ### what is walked -/
inductive Itr where
  | seq (d : D) | enum (d : D) | rng (lo : Int) (n : Nat) | zip (a b : D) | zipT (xs ys : List D)
def Itr.len (st : Sto) : Itr → Option Nat
  | .seq d => (seqItems st d).map List.length
  | .enum d => (seqItems st d).map List.length
  | .rng _ n => some n
  | .zip a b => match items st a, items st b with
    | some xs, some ys => some (min xs.length ys.length)
    | _, _ => none
  | .zipT xs ys => some (min xs.length ys.length)
def Itr.at (st : Sto) (i : Nat) : Itr → Option D
  | .seq d => (seqItems st d).bind fun xs => xs[i]?
  | .enum d => (seqItems st d).bind fun xs => (xs[i]?).map fun x => .tup [.int i, x]
  | .rng lo n => if i < n then some (.int (lo + i)) else none
  | .zip a b => match items st a, items st b with
    | some xs, some ys => match xs[i]?, ys[i]? with
      | some x, some y => some (.tup [x, y])
      | _, _ => none
    | _, _ => none
  | .zipT xs ys => match xs[i]?, ys[i]? with
    | some x, some y => some (.tup [x, y])
    | _, _ => none
/-- the iterator of what is walked -/
def JR (W : Wd) (ρ : List Addr) (H : Hp) (it : Itr) (J : It) : Prop :=
  match it with
  | .seq d => ∃ a, Rel W ρ H d (.ref a) ∧ (((∃ xs, d = .tup xs) ∧ J = Itt W.K a) ∨ ((∀ xs, d ≠ .tup xs) ∧ J = Itl W.K a))
  | .enum d => ∃ a, Rel W ρ H d (.ref a) ∧ (((∃ xs, d = .tup xs) ∧ J = ItT W.K a) ∨ ((∀ xs, d ≠ .tup xs) ∧ J = Ite W.K a))
  | .rng lo n => J = L2.Itr lo n
  | .zip x y => ∃ a b, Rel W ρ H x (.ref a) ∧ Rel W ρ H y (.ref b) ∧ J = Itz W.K a b
  | .zipT xs ys => ∃ a b, Rel W ρ H (.tup xs) (.ref a) ∧ Rel W ρ H (.tup ys) (.ref b) ∧ J = RZ.ItzT W.K a b
theorem JR.ext {W : Wd} {ρ ρ' : List Addr} {H H' : Hp} {it : Itr} {J : It} (h : JR W ρ H it J) (x : Ext ρ H ρ' H') : JR W ρ' H' it J := by
  cases it with
  | seq d => obtain ⟨a, r, q⟩ := h; exact ⟨a, r.ext x, q⟩
  | enum d => obtain ⟨a, r, q⟩ := h; exact ⟨a, r.ext x, q⟩
  | rng lo n => exact h
  | zip a b => obtain ⟨p, q, r, r', z⟩ := h; exact ⟨p, q, r.ext x, r'.ext x, z⟩
  | zipT a b => obtain ⟨p, q, r, r', z⟩ := h; exact ⟨p, q, r.ext x, r'.ext x, z⟩
theorem seq_nottup {st : Sto} {d : D} {xs : List D} (n : ∀ xs, d ≠ .tup xs) (e : seqItems st d = some xs) : items st d = some xs := by
  cases d with
  | tup ys => exact absurd rfl (n ys)
  | lst ys => exact e
  | loc m => exact e
  | _ => cases e
theorem JR.stop {W : Wd} {ρ : List Addr} {H : Hp} {st : Sto} {it : Itr} {J : It} {n : Nat} (s : SR W ρ H st) (h : JR W ρ H it J) (e : it.len st = some n) : J.stop n H := by
  cases it with
  | seq d =>
    obtain ⟨a, r, q⟩ := h
    cases z : seqItems st d with
    | none => simp [Itr.len, z] at e
    | some xs =>
      simp only [Itr.len, z, Option.map_some, Option.some.injEq] at e
      rcases q with ⟨⟨ys, rfl⟩, rfl⟩ | ⟨nt, rfl⟩
      · cases z
        obtain ⟨p, vs, e1, h1, rs⟩ := r.tuple
        cases e1
        exact ⟨vs, h1, by rw [← rs.length, e]; exact Nat.le_refl _⟩
      · obtain ⟨p, vs, e1, h1, rs⟩ := r.list s (seq_nottup nt z)
        cases e1
        exact ⟨vs, h1, by rw [← rs.length, e]; exact Nat.le_refl _⟩
  | enum d =>
    obtain ⟨a, r, q⟩ := h
    cases z : seqItems st d with
    | none => simp [Itr.len, z] at e
    | some xs =>
      simp only [Itr.len, z, Option.map_some, Option.some.injEq] at e
      rcases q with ⟨⟨ys, rfl⟩, rfl⟩ | ⟨nt, rfl⟩
      · cases z
        obtain ⟨p, vs, e1, h1, rs⟩ := r.tuple
        cases e1
        exact ⟨vs, h1, by rw [← rs.length, e]; exact Nat.le_refl _⟩
      · obtain ⟨p, vs, e1, h1, rs⟩ := r.list s (seq_nottup nt z)
        cases e1
        exact ⟨vs, h1, by rw [← rs.length, e]; exact Nat.le_refl _⟩
  | rng lo m =>
    cases h
    cases e
    exact Nat.le_refl _
  | zip a b =>
    obtain ⟨p, q, r, r', rfl⟩ := h
    cases z : items st a with
    | none => simp [Itr.len, z] at e
    | some xs =>
      cases z' : items st b with
      | none => simp [Itr.len, z, z'] at e
      | some ys =>
        simp only [Itr.len, z, z', Option.some.injEq] at e
        obtain ⟨p1, vs, e1, h1, rs⟩ := r.list s z
        obtain ⟨p2, ws, e2, h2, rs'⟩ := r'.list s z'
        cases e1; cases e2
        exact ⟨vs, ws, h1, h2, by rw [← rs.length, ← rs'.length]; omega⟩
  | zipT xs ys =>
    obtain ⟨p, q, r, r', rfl⟩ := h
    obtain ⟨p1, vs, e1, h1, rs⟩ := r.tuple
    obtain ⟨p2, ws, e2, h2, rs'⟩ := r'.tuple
    cases e1; cases e2
    simp only [Itr.len, Option.some.injEq] at e
    exact ⟨vs, ws, h1, h2, by rw [← rs.length, ← rs'.length]; omega⟩
theorem JR.turn {W : Wd} {ρ : List Addr} {H : Hp} {st : Sto} {it : Itr} {J : It} {i : Nat} {d : D} (s : SR W ρ H st) (h : JR W ρ H it J) (e : it.at st i = some d) :
    J.go i H ∧ ∀ v H', J.yld i H v H' → Ext ρ H ρ H' ∧ SR W ρ H' st ∧ Rel W ρ H' d v := by
  cases it with
  | seq c =>
    obtain ⟨a, r, q⟩ := h
    cases z : seqItems st c with
    | none => simp [Itr.at, z] at e
    | some xs =>
      simp only [Itr.at, z, Option.bind_some] at e
      rcases q with ⟨⟨ys, rfl⟩, rfl⟩ | ⟨nt, rfl⟩
      · cases z
        obtain ⟨p, vs, e1, h1, rs⟩ := r.tuple
        cases e1
        obtain ⟨v, hv, rv⟩ := rs.get e
        refine ⟨⟨vs, v, h1, hv⟩, fun w H' y => ?_⟩
        obtain ⟨rfl, f⟩ := y
        have g := f vs h1
        rw [hv] at g; cases g
        exact ⟨.refl, s, rv⟩
      · obtain ⟨p, vs, e1, h1, rs⟩ := r.list s (seq_nottup nt z)
        cases e1
        obtain ⟨v, hv, rv⟩ := rs.get e
        refine ⟨⟨vs, v, h1, hv⟩, fun w H' y => ?_⟩
        obtain ⟨rfl, f⟩ := y
        have g := f vs h1
        rw [hv] at g; cases g
        exact ⟨.refl, s, rv⟩
  | enum c =>
    obtain ⟨a, r, q⟩ := h
    cases z : seqItems st c with
    | none => simp [Itr.at, z] at e
    | some xs =>
      simp only [Itr.at, z, Option.bind_some] at e
      cases z2 : xs[i]? with
      | none => simp [z2] at e
      | some x =>
        simp only [z2, Option.map_some, Option.some.injEq] at e
        subst e
        rcases q with ⟨⟨ys, rfl⟩, rfl⟩ | ⟨nt, rfl⟩
        · cases z
          obtain ⟨p, vs, e1, h1, rs⟩ := r.tuple
          cases e1
          obtain ⟨v, hv, rv⟩ := rs.get z2
          refine ⟨⟨vs, v, h1, hv⟩, fun w H' y => ?_⟩
          obtain ⟨T, u, rfl, nT, rfl, f⟩ := y
          have g := f vs h1
          rw [hv] at g; cases g
          have x1 : Ext ρ H ρ (upd H T (.tup [.int (i : Nat), v])) := .new nT
          exact ⟨x1, s.new nT, .tup (.inl upd_same) (s.nin nT) (s.nav nT) (.cons (.int _) (.cons (rv.ext x1) .nil))⟩
        · obtain ⟨p, vs, e1, h1, rs⟩ := r.list s (seq_nottup nt z)
          cases e1
          obtain ⟨v, hv, rv⟩ := rs.get z2
          refine ⟨⟨vs, v, h1, hv⟩, fun w H' y => ?_⟩
          obtain ⟨T, u, rfl, nT, rfl, f⟩ := y
          have g := f vs h1
          rw [hv] at g; cases g
          have x1 : Ext ρ H ρ (upd H T (.tup [.int (i : Nat), v])) := .new nT
          exact ⟨x1, s.new nT, .tup (.inl upd_same) (s.nin nT) (s.nav nT) (.cons (.int _) (.cons (rv.ext x1) .nil))⟩
  | rng lo m =>
    cases h
    have e' : (if i < m then some (D.int (lo + i)) else none) = some d := e
    by_cases z : i < m
    · rw [if_pos z] at e'
      cases e'
      refine ⟨z, fun w H' y => ?_⟩
      obtain ⟨rfl, rfl⟩ := y
      exact ⟨.refl, s, .int _⟩
    · rw [if_neg z] at e'; cases e'
  | zip a b =>
    obtain ⟨p, q, r, r', rfl⟩ := h
    cases z : items st a with
    | none => simp [Itr.at, z] at e
    | some xs =>
      cases z' : items st b with
      | none => simp [Itr.at, z, z'] at e
      | some ys =>
        cases z2 : xs[i]? with
        | none => simp [Itr.at, z, z', z2] at e
        | some x =>
          cases z3 : ys[i]? with
          | none => simp [Itr.at, z, z', z2, z3] at e
          | some y =>
            simp only [Itr.at, z, z', z2, z3, Option.some.injEq] at e
            subst e
            obtain ⟨p1, vs, e1, h1, rs⟩ := r.list s z
            obtain ⟨p2, ws, e2, h2, rs'⟩ := r'.list s z'
            cases e1; cases e2
            obtain ⟨v, hv, rv⟩ := rs.get z2
            obtain ⟨w, hw, rw'⟩ := rs'.get z3
            refine ⟨⟨vs, ws, v, w, h1, h2, hv, hw⟩, fun u H' yy => ?_⟩
            obtain ⟨T, u1, u2, rfl, nT, rfl, f1, f2⟩ := yy
            have g1 := f1 vs h1
            have g2 := f2 ws h2
            rw [hv] at g1; cases g1
            rw [hw] at g2; cases g2
            have x1 : Ext ρ H ρ (upd H T (.tup [v, w])) := .new nT
            exact ⟨x1, s.new nT, .tup (.inl upd_same) (s.nin nT) (s.nav nT) (.cons (rv.ext x1) (.cons (rw'.ext x1) .nil))⟩
  | zipT xs ys =>
    obtain ⟨p, q, r, r', rfl⟩ := h
    cases z2 : xs[i]? with
    | none => simp [Itr.at, z2] at e
    | some x =>
      cases z3 : ys[i]? with
      | none => simp [Itr.at, z2, z3] at e
      | some y =>
        simp only [Itr.at, z2, z3, Option.some.injEq] at e
        subst e
        obtain ⟨p1, vs, e1, h1, rs⟩ := r.tuple
        obtain ⟨p2, ws, e2, h2, rs'⟩ := r'.tuple
        cases e1; cases e2
        obtain ⟨v, hv, rv⟩ := rs.get z2
        obtain ⟨w, hw, rw'⟩ := rs'.get z3
        refine ⟨⟨vs, ws, v, w, h1, h2, hv, hw⟩, fun u H' yy => ?_⟩
        obtain ⟨T, u1, u2, rfl, nT, rfl, f1, f2⟩ := yy
        have g1 := f1 vs h1
        have g2 := f2 ws h2
        rw [hv] at g1; cases g1
        rw [hw] at g2; cases g2
        have x1 : Ext ρ H ρ (upd H T (.tup [v, w])) := .new nT
        exact ⟨x1, s.new nT, .tup (.inl upd_same) (s.nin nT) (s.nav nT) (.cons (rv.ext x1) (.cons (rw'.ext x1) .nil))⟩
abbrev IM := Sl → Sto → R Itr
def SndI (K : PySem.W.Frag) (mg : Str → Option Value) (w : TI) (Wx : WX) (m : IM) : Prop :=
  ∀ av σ e ρ H st (Q : It → Hp → Prop), SR ⟨K, mg, av⟩ ρ H st → ER ⟨K, mg, av⟩ ρ H e σ → Post ⟨K, mg, av⟩ (JR ⟨K, mg, av⟩) (fun c d H => Wx c d σ H) ρ H Q (m e st) → w σ H Q

/-! ### for -/
def forL (it : Itr) (n : Nat) (body : D → SM) : Nat → Sl → Sto → RS
  | 0, e, st => if it.len st = some n then .nx e st else .no
  | r + 1, e, st => if it.len st = some n then
      match it.at st (n - (r + 1)) with
      | some d => match body d e st with
        | .nx e' st' => forL it n body r e' st'
        | .ct e' st' => forL it n body r e' st'
        | .bk e' st' => .nx e' st'
        | x => x
      | none => .no
    else .no
def sFor (im : IM) (g : GM) (body : SM) : SM := fun e st => (im e st).s e fun it st1 => match it.len st1 with
  | some n => forL it n (fun d e st => match g d e with | some e' => body e' st | none => .no) n e st1
  | none => .no
theorem snd_for {wi : TI} {g : TG} {tb : TS} {im : IM} {m : GM} {body : SM} (hi : SndI K mg wi Wx im) (hg : SndG K mg g m) (hb : SndS K mg tb Wx body) : SndS K mg (tFor wi g tb) Wx (sFor im m body) := by
  intro av σ e ρ H st Ds s er h
  refine hi av σ e ρ H st _ s er ((PostS.s er h).imp ?_)
  rintro J H1 ⟨it, ρ1, st1, x1, s1, j1, q1⟩
  split at q1
  · rename_i n hn
    refine ⟨fun i r σ' H' => i + r = n ∧ ∃ e' ρ' st', Ext ρ1 H1 ρ' H' ∧ SR ⟨K, mg, av⟩ ρ' H' st' ∧ ER ⟨K, mg, av⟩ ρ' H' e' σ' ∧ PostS ⟨K, mg, av⟩ Wx Ds ρ' H' (forL it n (fun d e st => match m d e with | some e' => body e' st | none => .no) r e' st'),
      ⟨n, by omega, e, ρ1, st1, .refl, s1, er.ext x1, q1⟩, ?_⟩
    rintro i r σ2 H2 ⟨hir, e2, ρ2, st2, x2, s2, er2, q2⟩
    have j2 := j1.ext x2
    cases r with
    | zero =>
      have q2' : PostS ⟨K, mg, av⟩ Wx Ds ρ2 H2 (if it.len st2 = some n then .nx e2 st2 else .no) := q2
      split at q2'
      · rename_i hl
        have : i = n := by omega
        subst this
        exact .inl ⟨j2.stop s2 hl, q2' σ2 ρ2 H2 .refl s2 er2⟩
      · exact q2'.elim
    | succ r =>
      unfold forL at q2
      split at q2
      · rename_i hl
        have hi' : n - (r + 1) = i := by omega
        rw [hi'] at q2
        split at q2
        · rename_i d hd
          obtain ⟨go, yl⟩ := j2.turn s2 hd
          refine .inr ⟨go, fun σ3 H3 => ∃ e3 ρ3 st3, Ext ρ1 H1 ρ3 H3 ∧ SR ⟨K, mg, av⟩ ρ3 H3 st3 ∧ ER ⟨K, mg, av⟩ ρ3 H3 e3 σ3 ∧ PostS ⟨K, mg, av⟩ Wx Ds ρ3 H3 (forL it n (fun d e st => match m d e with | some e' => body e' st | none => .no) r e3 st3), fun σ3 H3 z => ⟨r, by omega, by omega, z⟩, fun v H3 y => ?_⟩
          obtain ⟨x3, s3, r3⟩ := yl v H3 y
          cases hm : m d e2 with
          | none => simp only [hm] at q2; exact q2.elim
          | some e3 =>
            simp only [hm] at q2
            refine hg av σ2 e2 ρ2 H3 st2 d v e3 _ s3 (er2.ext x3) r3 hm fun σ3 er3 => ?_
            refine hb av σ3 e3 ρ2 H3 st2 _ s3 er3 ?_
            have x23 := x2.trans x3
            cases hbd : body e3 st2 with
            | nx e4 st4 =>
              rw [hbd] at q2
              intro σ4 ρ4 H4 x4 s4 er4
              exact ⟨e4, ρ4, st4, x23.trans x4, s4, er4, PostS.ext q2 (x3.trans x4)⟩
            | ct e4 st4 =>
              rw [hbd] at q2
              intro σ4 ρ4 H4 x4 s4 er4
              exact ⟨e4, ρ4, st4, x23.trans x4, s4, er4, PostS.ext q2 (x3.trans x4)⟩
            | bk e4 st4 =>
              rw [hbd] at q2
              intro σ4 ρ4 H4 x4 s4 er4
              exact q2 σ4 ρ4 H4 (x3.trans x4) s4 er4
            | rt d4 st4 =>
              rw [hbd] at q2
              intro v4 ρ4 H4 x4 s4 r4
              exact q2 v4 ρ4 H4 (x3.trans x4) s4 r4
            | exc c fs e4 st4 =>
              rw [hbd] at q2
              intro cls dd σ4 ρ4 H4 x4 s4 er4 z4
              exact q2 cls dd σ4 ρ4 H4 (x3.trans x4) s4 er4 z4
            | no => rw [hbd] at q2; exact q2.elim
        · exact q2.elim
      · exact q2.elim
  · exact q1.elim

/-! ### while -/
def whileL (c : TM) (body : SM) : Nat → Sl → Sto → RS
  | 0, _, _ => .no
  | f + 1, e, st => (c e st).s e fun k st1 => if k then
      match body e st1 with
      | .nx e' st' => whileL c body f e' st'
      | .ct e' st' => whileL c body f e' st'
      | .bk e' st' => .nx e' st'
      | x => x
    else .nx e st1
theorem snd_while {tc : TT} {tb : TS} {c : TM} {body : SM} {fuel : Nat} (hc : SndT K mg tc Wx c) (hb : SndS K mg tb Wx body) : SndS K mg (tWhile tc tb) Wx (whileL c body fuel) := by
  intro av σ e ρ H st Ds s er h
  refine ⟨fun f σ' H' => ∃ e' ρ' st', SR ⟨K, mg, av⟩ ρ' H' st' ∧ ER ⟨K, mg, av⟩ ρ' H' e' σ' ∧ PostS ⟨K, mg, av⟩ Wx Ds ρ' H' (whileL c body f e' st'), ⟨fuel, e, ρ, st, s, er, h⟩, ?_⟩
  rintro f σ1 H1 ⟨e1, ρ1, st1, s1, er1, q1⟩
  cases f with
  | zero => exact q1.elim
  | succ f =>
    refine hc av σ1 e1 ρ1 H1 st1 _ s1 er1 ((PostS.s er1 q1).imp ?_)
    rintro b H2 ⟨k, ρ2, st2, x2, s2, rfl, q2⟩
    cases k with
    | false => exact q2 σ1 ρ2 H2 .refl s2 (er1.ext x2)
    | true =>
      have q3 : PostS ⟨K, mg, av⟩ Wx Ds ρ2 H2 (match body e1 st2 with
        | .nx e' st' => whileL c body f e' st'
        | .ct e' st' => whileL c body f e' st'
        | .bk e' st' => .nx e' st'
        | x => x) := q2
      rw [if_pos rfl]
      refine ⟨fun σ' H' => ∃ e' ρ' st', SR ⟨K, mg, av⟩ ρ' H' st' ∧ ER ⟨K, mg, av⟩ ρ' H' e' σ' ∧ PostS ⟨K, mg, av⟩ Wx Ds ρ' H' (whileL c body f e' st'), fun σ' H' z => ⟨f, Nat.lt_succ_self f, z⟩, ?_⟩
      refine hb av σ1 e1 ρ2 H2 st2 _ s2 (er1.ext x2) ?_
      cases hbd : body e1 st2 with
      | nx e4 st4 =>
        rw [hbd] at q3
        intro σ4 ρ4 H4 x4 s4 er4
        exact ⟨e4, ρ4, st4, s4, er4, PostS.ext q3 x4⟩
      | ct e4 st4 =>
        rw [hbd] at q3
        intro σ4 ρ4 H4 x4 s4 er4
        exact ⟨e4, ρ4, st4, s4, er4, PostS.ext q3 x4⟩
      | bk e4 st4 => rw [hbd] at q3; exact q3
      | rt d4 st4 => rw [hbd] at q3; exact q3
      | exc c fs e4 st4 => rw [hbd] at q3; exact q3
      | no => rw [hbd] at q3; exact q3.elim
end
end DX

/-! DxI: comprehensions, defs and their calls. -/
set_option linter.all false
set_option maxRecDepth 100000
set_option Elab.async false
namespace DX
open PySem PySem.Spec PyProof.Rows L2

/-! ### slots forgotten -/
def wipeE (e : Sl) : List Nat → Sl
  | [] => e
  | v :: vs => (wipeE e vs).set v none
theorem ER.wipe {W : Wd} {ρ : List Addr} {H : Hp} {e : Sl} {σ : L2.St} (r : ER W ρ H e σ) : ∀ vs : List Nat, ER W ρ H (wipeE e vs) (wipe σ vs)
  | [] => r
  | v :: vs => (ER.wipe r vs).un v
theorem wipe_get (σ : L2.St) (j : Nat) : ∀ vs : List Nat, (wipe σ vs)[j]? = if j ∈ vs ∧ j < σ.length then some none else σ[j]?
  | [] => by simp [wipe]
  | v :: vs => by
    have ih := wipe_get σ j vs
    have hl : (wipe σ vs).length = σ.length := wipe_length σ vs
    show ((wipe σ vs).set v none)[j]? = _
    rw [List.getElem?_set, ih, hl]
    by_cases h : v = j
    · subst h
      by_cases hb : v < σ.length
      · simp [hb]
      · simp [hb]
    · have h' : ¬ j = v := fun z => h z.symm
      simp [h, h']
theorem wipe_wipe (σ : L2.St) (vs : List Nat) : wipe (wipe σ vs) vs = wipe σ vs := by
  apply List.ext_getElem?
  intro j
  rw [wipe_get, wipe_get, wipe_length]
  by_cases h : j ∈ vs ∧ j < σ.length <;> simp [h]
theorem wipe_set (σ : L2.St) (vs : List Nat) (i : Nat) (x : Option V) (h : i ∈ vs) : wipe (σ.set i x) vs = wipe σ vs := by
  apply List.ext_getElem?
  intro j
  rw [wipe_get, wipe_get, List.length_set]
  by_cases hj : j ∈ vs ∧ j < σ.length
  · simp [hj]
  · rw [if_neg hj, if_neg hj, List.getElem?_set]
    by_cases e : i = j
    · subst e
      have : ¬ i < σ.length := fun z => hj ⟨h, z⟩
      simp [this]
    · simp [e]
/-- a target whose names stand at vs -/
def GW (g : TG) (vs : List Nat) : Prop := ∀ v σ H (Q : L2.St → Hp → Prop), g v σ H Q → g v σ H fun σ' H' => wipe σ' vs = wipe σ vs ∧ Q σ' H'
def GsW (g : TGs) (vs : List Nat) : Prop := ∀ v σ H (Q : L2.St → Hp → Prop), g v σ H Q → g v σ H fun σ' H' => wipe σ' vs = wipe σ vs ∧ Q σ' H'
theorem gw_name {i : Nat} {vs : List Nat} (h : i ∈ vs) : GW (gName i) vs := fun v σ H Q q => ⟨wipe_set σ vs i (some v) h, q⟩
theorem gw_nil {vs : List Nat} : GsW gNil vs := fun v σ H Q q => ⟨q.1, rfl, q.2⟩
/-- a target's reading lets its end be weakened -/
def GMono (g : TG) : Prop := ∀ v σ H (Q Q' : L2.St → Hp → Prop), (∀ σ H, Q σ H → Q' σ H) → g v σ H Q → g v σ H Q'
def GsMono (g : TGs) : Prop := ∀ v σ H (Q Q' : L2.St → Hp → Prop), (∀ σ H, Q σ H → Q' σ H) → g v σ H Q → g v σ H Q'
theorem gmono_name {i : Nat} : GMono (gName i) := fun _ _ _ _ _ f q => f _ _ q
theorem gmono_nil : GsMono gNil := fun _ _ _ _ _ f q => ⟨q.1, f _ _ q.2⟩
theorem gmono_cons {g : TG} {gs : TGs} (h1 : GMono g) (h2 : GsMono gs) : GsMono (gCons g gs) := fun _ _ _ _ _ f ⟨v, r, e, q⟩ => ⟨v, r, e, h1 _ _ _ _ _ (fun _ _ z => h2 _ _ _ _ _ f z) q⟩
theorem gmono_tup {K : PySem.W.Frag} {n : Nat} {gs : TGs} (h : GsMono gs) : GMono (gTup K n gs) := fun _ _ _ _ _ f ⟨a, xs, e, s, l, q⟩ => ⟨a, xs, e, s, l, h _ _ _ _ _ f q⟩
theorem gw_cons {g : TG} {gs : TGs} {vs : List Nat} (m1 : GMono g) (m2 : GsMono gs) (h1 : GW g vs) (h2 : GsW gs vs) : GsW (gCons g gs) vs := fun l σ H Q ⟨v, r, e, q⟩ => by
  refine ⟨v, r, e, m1 _ _ _ _ _ (fun σ1 H1 z => ?_) (h1 _ _ _ _ q)⟩
  obtain ⟨z1, z2⟩ := z
  exact m2 _ _ _ _ _ (fun σ2 H2 y => ⟨y.1.trans z1, y.2⟩) (h2 _ _ _ _ z2)
theorem gw_tup {K : PySem.W.Frag} {n : Nat} {gs : TGs} {vs : List Nat} (h : GsW gs vs) : GW (gTup K n gs) vs := fun v σ H Q ⟨a, xs, e, s, l, q⟩ => ⟨a, xs, e, s, l, h _ _ _ _ q⟩

/-! ### the list that is filled -/
theorem JR.mapW {W W' : Wd} {ρ : List Addr} {H H' : Hp} {it : Itr} {J : It} (hK : W'.K = W.K) (f : ∀ d v, Rel W ρ H d v → Rel W' ρ H' d v) (h : JR W ρ H it J) : JR W' ρ H' it J := by
  cases it with
  | seq d => obtain ⟨a, r, q⟩ := h; exact ⟨a, f _ _ r, by rw [hK]; exact q⟩
  | enum d => obtain ⟨a, r, q⟩ := h; exact ⟨a, f _ _ r, by rw [hK]; exact q⟩
  | rng lo n => exact h
  | zip a b => obtain ⟨p, q, r, r', z⟩ := h; exact ⟨p, q, f _ _ r, f _ _ r', by rw [hK]; exact z⟩
  | zipT a b => obtain ⟨p, q, r, r', z⟩ := h; exact ⟨p, q, f _ _ r, f _ _ r', by rw [hK]; exact z⟩
theorem Ext.over {ρ ρ' : List Addr} {H H' : Hp} {D : Addr} {o : HO} (x : Ext ρ H ρ' H') (h : H D = none) : Ext ρ H ρ' (upd H' D o) :=
  ⟨x.more, fun a u n e t => by rw [upd_ne (ne_of_none e h)]; exact x.keep a u n e t, fun a e => by
    by_cases q : a = D
    · subst q; exact absurd h e
    · rw [upd_ne q]; exact x.there a e⟩
mutual
theorem Rel.own {W : Wd} {ρ : List Addr} {H : Hp} {D : Addr} : ∀ {d : DX.D} {v : V}, Rel (W.and D) ρ H d v → Rel W (ρ ++ [D]) H d v
  | _, _, .non => .non
  | _, _, .bl b => .bl b
  | _, _, .int i => .int i
  | _, _, .str s => .str s
  | _, _, .tup r n m t => .tup r (fun z => (List.mem_append.mp z).elim n fun z => nmem_head m (List.mem_singleton.mp z)) (nmem_tail m) (Rels.own t)
  | _, _, .tupK r t => .tupK r (Rels.own t)
  | _, _, .lst r n m t => .lst r (fun z => (List.mem_append.mp z).elim n fun z => nmem_head m (List.mem_singleton.mp z)) (nmem_tail m) (Rels.own t)
  | _, _, .lstK r t => .lstK r (Rels.own t)
  | _, _, .edct e n m => .edct e (fun z => (List.mem_append.mp z).elim n fun z => nmem_head m (List.mem_singleton.mp z)) (nmem_tail m)
  | _, _, .loc e => .loc (by rw [List.getElem?_append_left (List.getElem?_eq_some_iff.mp e).1]; exact e)
  | _, _, .glob e => .glob e
  | _, _, .ty n => .ty n
theorem Rels.own {W : Wd} {ρ : List Addr} {H : Hp} {D : Addr} : ∀ {d : List DX.D} {v : List V}, Rels (W.and D) ρ H d v → Rels W (ρ ++ [D]) H d v
  | _, _, .nil => .nil
  | _, _, .cons r t => .cons (Rel.own r) (Rels.own t)
end
theorem SR.own {W : Wd} {ρ : List Addr} {H : Hp} {st : Sto} {D : Addr} {xs : List DX.D} {vs : List V} (s : SR (W.and D) ρ H st) (nD : D ∉ W.av) (h : H D = some (.lst vs)) (r : Rels (W.and D) ρ H xs vs) : SR W (ρ ++ [D]) H (st ++ [.lst xs]) := by
  have np : D ∉ ρ := (s.avs D List.mem_cons_self).2
  refine ⟨by simp [s.len], List.nodup_append.mpr ⟨s.nd, by simp, fun a ha b hb => ?_⟩, fun a ha => ⟨(s.avs a (List.mem_cons_of_mem _ ha)).1, fun hm => ?_⟩, fun n a u e1 e2 => ?_, fun P hP => ⟨(s.tab P hP).1, nmem_tail (s.tab P hP).2⟩⟩
  · rw [List.mem_singleton.mp hb]; rintro rfl; exact np ha
  · rcases List.mem_append.mp hm with z | z
    · exact (s.avs a (List.mem_cons_of_mem _ ha)).2 z
    · rw [List.mem_singleton.mp z] at ha; exact nD ha
  · by_cases hn : n < ρ.length
    · rw [List.getElem?_append_left hn] at e1
      rw [List.getElem?_append_left (by rw [← s.len]; exact hn)] at e2
      exact OR.map (W := W.and D) (W' := W) (ρ' := ρ ++ [D]) (H' := H) (r := s.at_ n a u e1 e2) (mg := rfl) (f := fun _ _ r => r.own) (e := rfl)
    · rw [List.getElem?_append_right (by omega)] at e1
      rw [List.getElem?_append_right (by rw [← s.len]; omega), ← s.len] at e2
      cases hk : n - ρ.length with
      | zero => rw [hk] at e1 e2; simp at e1 e2; subst e1; subst e2; exact ⟨vs, h, r.own⟩
      | succ k => rw [hk] at e1; simp at e1

/-! ### comprehensions -/
def compL (it : Itr) (n : Nat) (g : GM) (c : TM) (f : EM) : Nat → List D → Sl → Sto → R (List D)
  | 0, acc, _, st => if it.len st = some n then .ok acc st else .no
  | r + 1, acc, e, st => if it.len st = some n then
      match it.at st (n - (r + 1)) with
      | some d => match g d e with
        | some e' => match c e' st with
          | .ok true st1 => match f e' st1 with
            | .ok y st2 => if acc.length < sizeLine then compL it n g c f r (acc ++ [y]) e st2 else .no
            | _ => .no
          | .ok false st1 => compL it n g c f r acc e st1
          | _ => .no
        | none => .no
      | none => .no
    else .no
/-- the list made: data, or an object of the store -/
def newC (mt : Bool) (xs : List D) (st : Sto) : R D := newL mt xs st
def mLc (mt : Bool) (im : IM) (vs : List Nat) (g : GM) (c : TM) (f : EM) : EM := fun e st => (im e st).bind fun it st1 => match it.len st1 with
  | some n => (compL it n g c f n [] (wipeE e vs) st1).bind (newC mt)
  | none => .no
section
variable {K : PySem.W.Frag} {mg : Str → Option Value} {Wx : WX}
abbrev WF : WX := fun _ _ _ _ => False
theorem snd_lc {mt : Bool} {wi : TI} {g : TG} {tt : TT} {te : TE} {vs : List Nat} {im : IM} {m : GM} {c : TM} {f : EM} (hi : SndI K mg wi Wx im) (hg : SndG K mg g m) (hw : GW g vs) (hm : GMono g) (hc : SndT K mg tt WF c) (hf : SndE K mg te WF f) :
    SndE K mg (tLc wi g tt te vs) Wx (mLc mt im vs m c f) := by
  intro av σ e ρ H st Q s er h
  refine hi av σ e ρ H st _ s er ((Post.bind h).imp ?_)
  rintro J H1 ⟨it, ρ1, st1, x1, s1, j1, q1⟩
  split at q1
  · rename_i n hn
    intro D nD
    have nav : D ∉ av := s1.nav nD
    -- what is wanted of the whole list
    have fin : ∀ r : R (List DX.D), Post ⟨K, mg, av⟩ (Rel ⟨K, mg, av⟩) (fun c d H => Wx c d σ H) ρ1 H1 Q (r.bind (newC mt)) → (∀ c fs st, r ≠ .exc c fs st) →
        ∃ xs stF, r = .ok xs stF ∧ ∀ ρF HF vF, Ext ρ1 H1 ρF HF → SR ⟨K, mg, D :: av⟩ ρF HF stF → HF D = some (.lst vF) → Rels ⟨K, mg, D :: av⟩ ρF HF xs vF → Q (.ref D) HF := by
      intro r p ne
      cases r with
      | no => exact p.elim
      | exc c fs st => exact absurd rfl (ne c fs st)
      | ok xs stF =>
        refine ⟨xs, stF, rfl, fun ρF HF vF xF sF hF rF => ?_⟩
        have sF' : SR ((⟨K, mg, av⟩ : Wd).and D) ρF HF stF := sF
        have rF' : Rels ((⟨K, mg, av⟩ : Wd).and D) ρF HF xs vF := rF
        have p' : Post ⟨K, mg, av⟩ (Rel ⟨K, mg, av⟩) (fun c d H => Wx c d σ H) ρ1 H1 Q (newL mt xs stF) := p
        have nρ : D ∉ ρF := (sF'.avs D List.mem_cons_self).2
        unfold newL at p'
        cases mt with
        | false =>
          rw [if_neg (by simp)] at p'
          exact p' (.ref D) ρF HF xF sF'.done (.lst (.inl hF) nρ nav rF'.done)
        | true =>
          rw [if_pos rfl] at p'
          have xo : Ext ρ1 H1 (ρF ++ [D]) HF := by
            obtain ⟨l, hl, hl2⟩ := xF.more
            refine ⟨⟨l ++ [D], by rw [hl, List.append_assoc], fun a ha => ?_⟩, xF.keep, xF.there⟩
            rcases List.mem_append.mp ha with z | z
            · exact hl2 a z
            · rw [List.mem_singleton.mp z]; exact nD
          exact p' (.ref D) (ρF ++ [D]) HF xo (sF'.own nav hF rF') (.loc (by rw [← sF.len, List.getElem?_append_right (Nat.le_refl _), Nat.sub_self]; rfl))
    have noexc : ∀ (r : Nat) (acc : List DX.D) (e : Sl) (st : Sto) (k : Str) (fs : List (Str × DX.D)) (s' : Sto), compL it n m c f r acc e st ≠ .exc k fs s' := by
      intro r
      induction r with
      | zero => intro acc e st k fs s' z; unfold compL at z; split at z <;> cases z
      | succ r ih =>
        intro acc e st k fs s' z
        unfold compL at z
        repeat' split at z
        all_goals first | exact ih _ _ _ _ _ _ z | cases z
    obtain ⟨xs, stF, hF, qF⟩ := fin _ q1 (noexc _ _ _ _)
    have s2 : SR ⟨K, mg, D :: av⟩ ρ1 (upd H1 D (.lst [])) st1 := s1.fill nD
    refine ⟨fun i r Hc => i + r = n ∧ ∃ acc va ρc stc, Ext ρ1 H1 ρc Hc ∧ SR ⟨K, mg, D :: av⟩ ρc Hc stc ∧ ER ⟨K, mg, D :: av⟩ ρc Hc (wipeE e vs) (wipe σ vs) ∧ Hc D = some (.lst va) ∧ Rels ⟨K, mg, D :: av⟩ ρc Hc acc va ∧ JR ⟨K, mg, D :: av⟩ ρc Hc it J ∧ compL it n m c f r acc (wipeE e vs) stc = .ok xs stF,
      ⟨n, by omega, [], [], ρ1, st1, Ext.new nD, s2, ((er.ext x1).mapW (W' := ⟨K, mg, D :: av⟩) (H' := upd H1 D (.lst [])) fun _ _ r => r.fill nD).wipe vs, upd_same, .nil, JR.mapW (W := ⟨K, mg, av⟩) (H := H1) (W' := ⟨K, mg, D :: av⟩) (H' := upd H1 D (.lst [])) rfl (fun _ _ r => r.fill nD) j1, hF⟩, ?_⟩
    rintro i r Hc ⟨hir, acc, va, ρc, stc, xc, sc, ec, hD, ra, jc, hcomp⟩
    have sc' : SR ((⟨K, mg, av⟩ : Wd).and D) ρc Hc stc := sc
    have nDc : D ∉ ρc := (sc'.avs D List.mem_cons_self).2
    cases r with
    | zero =>
      have h0 : (if it.len stc = some n then (.ok acc stc : R (List DX.D)) else .no) = .ok xs stF := hcomp
      by_cases hl : it.len stc = some n
      · rw [if_pos hl] at h0
        cases h0
        have hi' : i = n := by omega
        subst hi'
        exact .inl ⟨jc.stop sc hl, qF ρc Hc va xc sc hD ra⟩
      · rw [if_neg hl] at h0; cases h0
    | succ r =>
      unfold compL at hcomp
      split at hcomp
      · rename_i hl
        have hi' : n - (r + 1) = i := by omega
        rw [hi'] at hcomp
        split at hcomp
        · rename_i d hd
          obtain ⟨go, yl⟩ := jc.turn sc hd
          refine .inr ⟨go, fun Hn => i + 1 + r = n ∧ ∃ acc va ρc stc, Ext ρ1 H1 ρc Hn ∧ SR ⟨K, mg, D :: av⟩ ρc Hn stc ∧ ER ⟨K, mg, D :: av⟩ ρc Hn (wipeE e vs) (wipe σ vs) ∧ Hn D = some (.lst va) ∧ Rels ⟨K, mg, D :: av⟩ ρc Hn acc va ∧ JR ⟨K, mg, D :: av⟩ ρc Hn it J ∧ compL it n m c f r acc (wipeE e vs) stc = .ok xs stF,
            fun Hn z => ⟨r, Nat.lt_succ_self r, z⟩, fun v H3 y => ?_⟩
          obtain ⟨x3, s3, r3⟩ := yl v H3 y
          split at hcomp
          · rename_i e' he
            refine hm _ _ _ _ _ (fun σ2 H2 z => z) (hm _ _ _ _ _ ?_ (hw v (wipe σ vs) H3 _ (hg (D :: av) (wipe σ vs) (wipeE e vs) ρc H3 stc d v e' (fun σ2 H2 => ER ⟨K, mg, D :: av⟩ ρc H3 e' σ2 ∧ H2 = H3) s3 (ec.ext x3) r3 he fun σ2 er2 => ⟨er2, rfl⟩)))
            rintro σ2 H2 ⟨hwp, er2, rfl⟩
            refine ⟨hwp.trans (wipe_wipe σ vs), ?_⟩
            have hD3 : H2 D = some (.lst va) := x3.keep D _ nDc hD nTl
            split at hcomp
            · rename_i st4 hc4
              refine hc (D :: av) σ2 e' ρc H2 stc _ s3 er2 ?_
              rw [hc4]
              rintro b ρ4 H4 x4 s4 rfl
              rw [if_pos rfl]
              split at hcomp
              · rename_i y st5 hf5
                split at hcomp
                · rename_i hz
                  refine hf (D :: av) σ2 e' ρ4 H4 st4 _ s4 (er2.ext x4) ?_
                  rw [hf5]
                  intro w ρ5 H5 x5 s5 r5
                  have s5' : SR ((⟨K, mg, av⟩ : Wd).and D) ρ5 H5 st5 := s5
                  have nD4 : D ∉ ρ4 := ((show SR ((⟨K, mg, av⟩ : Wd).and D) ρ4 H4 st4 from s4).avs D List.mem_cons_self).2
                  have hD5 : H5 D = some (.lst va) := x5.keep D _ nD4 (x4.keep D _ nDc hD3 nTl) nTl
                  have x35 := (x3.trans x4).trans x5
                  have ra5 := ra.ext x35
                  refine ⟨va, hD5, by rw [← ra5.length]; exact hz, by omega, acc ++ [y], va ++ [w], ρ5, st5, (xc.trans x35).over nD, s5'.more, (ec.ext x35).mapW fun _ _ r => (show Rel ((⟨K, mg, av⟩ : Wd).and D) ρ5 H5 _ _ from r).more, upd_same, ?_, (jc.ext x35).mapW rfl fun _ _ r => (show Rel ((⟨K, mg, av⟩ : Wd).and D) ρ5 H5 _ _ from r).more, hcomp⟩
                  exact (show Rels ((⟨K, mg, av⟩ : Wd).and D) ρ5 H5 _ _ from ra5.append (.one r5)).more
                · cases hcomp
              · cases hcomp
            · rename_i st4 hc4
              refine hc (D :: av) σ2 e' ρc H2 stc _ s3 er2 ?_
              rw [hc4]
              rintro b ρ4 H4 x4 s4 rfl
              rw [if_neg (by simp)]
              exact ⟨by omega, acc, va, ρ4, st4, xc.trans (x3.trans x4), s4, ec.ext (x3.trans x4), x4.keep D _ nDc hD3 nTl, ra.ext (x3.trans x4), jc.ext (x3.trans x4), hcomp⟩
            · cases hcomp
          · cases hcomp
        · cases hcomp
      · cases hcomp
  · exact q1.elim
end

/-! ### defs -/
structure FI where
  ps : List Str
  run : List D → Sto → R D
/-- what a def comes to, by its body -/
def runBody (n : Nat) (body : SM) (ds : List D) (st : Sto) : R D :=
  match body (ds.map some ++ List.replicate (n - ds.length) none) st with
  | .nx _ st' => .ok .non st'
  | .rt d st' => .ok d st'
  | .exc c fs _ st' => .exc c fs st'
  | _ => .no
def spF (K : PySem.W.Frag) (mg : Str → Option Value) (F : FI) : Sp := fun vs H Q E => ∃ av ρ st ds, SR ⟨K, mg, av⟩ ρ H st ∧ Rels ⟨K, mg, av⟩ ρ H ds vs ∧ ds.length = F.ps.length ∧ Post ⟨K, mg, av⟩ (Rel ⟨K, mg, av⟩) E ρ H Q (F.run ds st)
theorem ER.start {W : Wd} {ρ : List Addr} {H : Hp} {ds : List D} {vs : List V} (N : List Str) (r : Rels W ρ H ds vs) : ER W ρ H (ds.map some ++ List.replicate (N.length - ds.length) none) (L2.start N vs) := by
  unfold L2.start
  rw [← r.length]
  refine ⟨by simp [r.length], fun i d h => ?_⟩
  by_cases hi : i < ds.length
  · rw [List.getElem?_append_left (by simpa using hi), List.getElem?_map] at h
    cases z : ds[i]? with
    | none => rw [z] at h; cases h
    | some d' =>
      rw [z] at h; cases h
      obtain ⟨v, h1, h2⟩ := r.get z
      refine ⟨v, ?_, h2⟩
      rw [List.getElem?_append_left (by rw [List.length_map, ← r.length]; exact hi), List.getElem?_map, h1]
      rfl
  · rw [List.getElem?_append_right (by simpa using hi), List.getElem?_replicate] at h
    split at h <;> cases h
theorem fng_of {P : Program} {w : World} {K : PySem.W.Frag} {mg : Str → Option Value} {base : Heap} {k : Nat} {f : Addr} {x qual : Str} {st : Stmt} {fd : FuncData} {N : List Str} {F : FI} {body : SM}
    (fn : Fun K x qual st f fd) (S : FnScope N F.ps (defScope st)) (hF : F.run = runBody N.length body)
    (hb : ∀ (cd : Value) (A : Around) (outer : List Env) (s : Shared) (H : Hp) (E : XK), fd.code = cd → Free A → Room k (A.deeper (envOfC qual (defScope st) s.heap.objs.size f cd)) →
      DSs (cxOf (L2.CX P w) P w K mg base N qual (defScope st) f cd A outer s H E) (defBody st) body) : FnG P w K mg base (k + 1) f fd F.ps (spF K mg F) := by
  refine FnG.of fn S (fun vs H Q E h => ?_) (fun cd A outer s H vs Q E hcd fr hr h => ?_)
  · obtain ⟨av, ρ, st, ds, s, r, l, _⟩ := h
    rw [← r.length]; exact l
  · obtain ⟨av, ρ, st0, ds, s0, r, l, q⟩ := h
    obtain ⟨t, ht, hs⟩ := hb cd A outer s H E hcd fr hr (fun cls d _ H => E cls d H) (takes_of rfl rfl rfl rfl)
    refine ⟨t, ht, hs av _ (ds.map some ++ List.replicate (N.length - ds.length) none) ρ H st0 _ s0 (ER.start N r) ?_⟩
    rw [hF] at q
    unfold runBody at q
    cases z : body (ds.map some ++ List.replicate (N.length - ds.length) none) st0 with
    | nx e st' => rw [z] at q; exact fun σ' ρ' H' x s er => q .non ρ' H' x s .non
    | rt d st' => rw [z] at q; exact q
    | exc c fs e st' => rw [z] at q; exact fun cls dd σ' ρ' H' x s er xx => q cls dd ρ' H' x s xx
    | bk e st' => rw [z] at q; exact q.elim
    | ct e st' => rw [z] at q; exact q.elim
    | no => rw [z] at q; exact q.elim

/-! ### calls -/
def pick {α : Type} (perm : List Nat) (l : List α) : List α := perm.filterMap (l[·]?)
theorem Vals.pick {vs : List V} {us : List Value} (r : Vals vs us) : ∀ perm : List Nat, Vals (pick perm vs) (pick perm us)
  | [] => .nil
  | i :: perm => by
    unfold DX.pick
    rw [List.filterMap_cons, List.filterMap_cons]
    cases e : vs[i]? with
    | none => rw [r.none_of e]; exact Vals.pick r perm
    | some v =>
      obtain ⟨u, hu, ru⟩ := r.get e
      rw [hu]
      exact .cons ru (Vals.pick r perm)
theorem Rels.pick {W : Wd} {ρ : List Addr} {H : Hp} {ds : List D} {vs : List V} (r : Rels W ρ H ds vs) : ∀ perm : List Nat, Rels W ρ H (pick perm ds) (pick perm vs)
  | [] => .nil
  | i :: perm => by
    unfold DX.pick
    rw [List.filterMap_cons, List.filterMap_cons]
    cases e : ds[i]? with
    | none =>
      have : vs[i]? = none := List.getElem?_eq_none (by rw [← r.length]; exact List.getElem?_eq_none_iff.mp e)
      rw [this]; exact Rels.pick r perm
    | some d =>
      obtain ⟨v, hv, rv⟩ := r.get e
      rw [hv]
      exact .cons rv (Rels.pick r perm)
/-- how positional values and the keywords ks come to the parameters -/
def Bnd (fd : FuncData) (ps : List Str) (j : Nat) (ks : List Str) (perm : List Nat) : Prop := ∀ (s : Shared) (us ws : List Value), us.length = j → ws.length = ks.length → BindsTo s fd ⟨us, ks.zip ws⟩ (ps.zip (pick perm (us ++ ws)))
/-- what f(args, k = v) comes to -/
def mFn (F : FI) (perm : List Nat) (ms ks : List EM) : EM := fun e st => (mL ms e st).bind fun ds st1 => (mL ks e st1).bind fun zs st2 => if (pick perm (ds ++ zs)).length = F.ps.length then F.run (pick perm (ds ++ zs)) st2 else .no
theorem mL_len {ms : List EM} : ∀ {e : Sl} {st st' : Sto} {ds : List D}, mL ms e st = .ok ds st' → ds.length = ms.length := by
  induction ms with
  | nil => intro e st st' ds h; cases h; rfl
  | cons m ms ih =>
    intro e st st' ds h
    unfold mL at h
    cases z : m e st with
    | ok d st1 =>
      rw [z] at h
      cases z2 : mL ms e st1 with
      | ok ds' st2 => simp only [R.bind, z2] at h; cases h; rw [List.length_cons, ih z2, List.length_cons]
      | exc c fs s => simp only [R.bind, z2] at h; cases h
      | no => simp only [R.bind, z2] at h; cases h
    | exc c fs s => rw [z] at h; cases h
    | no => rw [z] at h; cases h
section
variable {X : Cx} {k : Nat} {f : Addr} {fd : FuncData} {F : FI} {x : Str} {p pos : Pos} {kws : List Keyword} {ks : List Str} {perm : List Nat} {j : Nat}
def tFn (sp : Sp) (perm : List Nat) (nA nK : Nat) (E : WX) (t tk : TA) : TE := fun σ H Q => t σ H fun vs H1 => vs.length = nA ∧ tk σ H1 fun zs H2 => zs.length = nK ∧ sp (pick perm (vs ++ zs)) H2 Q (WE E σ)
theorem snd_fn {K : PySem.W.Frag} {mg : Str → Option Value} {Wx : WX} {t tk : TA} {ms mk : List EM} {perm : List Nat} (h1 : SndL K mg t Wx (mL ms)) (h2 : SndL K mg tk Wx (mL mk)) : SndE K mg (tFn (spF K mg F) perm ms.length mk.length Wx t tk) Wx (mFn F perm ms mk) := by
  intro av σ e ρ H st Q s er h
  have hlen1 := fun (ds : List D) (st' : Sto) (z : mL ms e st = .ok ds st') => mL_len z
  unfold mFn at h
  cases z : mL ms e st with
  | no => rw [z] at h; exact h.elim
  | exc c fs st' =>
    rw [z] at h
    refine h1 av σ e ρ H st _ s er ?_
    rw [z]; exact h
  | ok ds st1 =>
    rw [z] at h
    have l1 := mL_len z
    refine h1 av σ e ρ H st _ s er ?_
    rw [z]
    intro vs ρ1 H1 x1 s1 r1
    refine ⟨by rw [← r1.length]; exact l1, ?_⟩
    have h' : Post ⟨K, mg, av⟩ (Rel ⟨K, mg, av⟩) (fun c d H => Wx c d σ H) ρ1 H1 Q ((mL mk e st1).bind fun zs st2 => if (pick perm (ds ++ zs)).length = F.ps.length then F.run (pick perm (ds ++ zs)) st2 else .no) := Post.ext h x1
    refine h2 av σ e ρ1 H1 st1 _ s1 (er.ext x1) ?_
    cases z2 : mL mk e st1 with
    | no => rw [z2] at h'; exact h'.elim
    | exc c fs st' => rw [z2] at h'; exact h'
    | ok zs st2 =>
      rw [z2] at h'
      intro ws ρ2 H2 x2 s2 r2
      refine ⟨by rw [← r2.length]; exact mL_len z2, ?_⟩
      have h3 : Post ⟨K, mg, av⟩ (Rel ⟨K, mg, av⟩) (fun c d H => Wx c d σ H) ρ2 H2 Q (if (pick perm (ds ++ zs)).length = F.ps.length then F.run (pick perm (ds ++ zs)) st2 else .no) := Post.ext h' x2
      split at h3
      · rename_i hl
        exact ⟨av, ρ2, st2, _, s2, ((r1.ext x2).append r2).pick perm, hl, h3⟩
      · exact h3.elim
variable {Wx : WX} {t tk : TA} {es : List Expr} {e : Expr} {sp : Sp} {ps : List Str}
/-- f(e, .., k = v, ..) -/
theorem pe_fn (G : FnG X.prog X.w X.K X.mg X.base k f fd ps sp) (fr : Free X.A) (hr : Room k X.A) (tkx : Takes X Wx) (hg : Gl X x) (hm : X.mg x = some (.ref f)) (hk : PySem.W.keepIn X.K (.ref f) = true) (hb : Bnd fd ps (e :: es).length ks perm)
    (ha : PA X (e :: es) t) (hkw : PK X kws tk) (hall : (backToKw pos (keywordEach kws X.env)).all (·.1.isSome) = true) (hks : (backToKw pos (keywordEach kws X.env)).filterMap (·.1) = ks)
    (hdb : (x == ("__debug__" : Str)) = false) (he : starEach (e :: es) X.env = (false, eval e X.env) :: starEach es X.env)
    (hpl : ((backTo pos (starEach (e :: es) X.env)).any (·.1) || (backToKw pos (keywordEach kws X.env)).any (·.1.isNone)) = false) :
    PE X (.Call (.Name x p) (e :: es) kws pos) (tFn sp perm (e :: es).length ks.length Wx t tk) := by
  refine ⟨fun pins s σ H Q I h => ?_⟩
  refine wpAny_Call_Name_kw (ld_glob I hg hm ?_ hdb)
  refine PySem.W.callWith_KW (h₀ := X.base) I.ok.mod.kin hk hall (thn (ha.run pos pins s σ H _ I h) fun us s1 ⟨vs, H1, I1, r, l1, q⟩ => ?_) hpl he
  refine thn (hkw.run pos pins s1 σ H1 _ I1 q) fun ws s2 ⟨zs, H2, I2, rz, l2, q2⟩ => ⟨I2.kIn, ?_⟩
  rw [hks]
  exact G.call fr hr tkx I2 (hb s2 us ws (by rw [← r.length]; exact l1) (by rw [← rz.length]; exact l2)) (Vals.pick (r.append rz) perm) q2
/-- f(), f(k = v, ..) -/
theorem pe_fn0 (G : FnG X.prog X.w X.K X.mg X.base k f fd ps sp) (fr : Free X.A) (hr : Room k X.A) (tkx : Takes X Wx) (hg : Gl X x) (hm : X.mg x = some (.ref f)) (hk : PySem.W.keepIn X.K (.ref f) = true) (hb : Bnd fd ps 0 ks perm)
    (hkw : PK X kws tk) (hall : (backToKw pos (keywordEach kws X.env)).all (·.1.isSome) = true) (hks : (backToKw pos (keywordEach kws X.env)).filterMap (·.1) = ks)
    (hdb : (x == ("__debug__" : Str)) = false)
    (hpl : ((backTo pos (starEach [] X.env)).any (·.1) || (backToKw pos (keywordEach kws X.env)).any (·.1.isNone)) = false) :
    PE X (.Call (.Name x p) [] kws pos) (tFn sp perm 0 ks.length Wx tNil tk) := by
  refine ⟨fun pins s σ H Q I h => ?_⟩
  refine wpAny_Call_Name_kw (ld_glob I hg hm ?_ hdb)
  refine PySem.W.callWith_KW0 (h₀ := X.base) I.ok.mod.kin hk hall ?_ hpl
  obtain ⟨_, h⟩ := h
  refine thn (hkw.run pos pins s σ H _ I h) fun ws s2 ⟨zs, H2, I2, rz, l2, q2⟩ => ⟨I2.kIn, ?_⟩
  rw [hks]
  exact G.call (us := []) fr hr tkx I2 (hb s2 [] ws rfl (by rw [← rz.length]; exact l2)) (Vals.pick rz perm) q2
end
end DX

/-! DxJ: one rule a construct. -/
set_option linter.all false
set_option maxRecDepth 100000
set_option Elab.async false
namespace DX
open PySem PySem.Spec PyProof.Rows L2

/-! ### what the syntax must be -/
def isStar : Expr → Bool
  | .Starred _ _ => true
  | _ => false
def isComp : Expr → Bool
  | .ListComp _ _ _ _ => true
  | .SetComp _ _ _ _ => true
  | .DictComp _ _ _ _ _ => true
  | _ => false
def isSlice : Expr → Bool
  | .Slice _ _ _ _ => true
  | _ => false
def isCall : Expr → Bool
  | .Call _ _ _ _ => true
  | _ => false
def isSet : Expr → Bool
  | .Set _ _ _ => true
  | _ => false
/-- a test by its value -/
def isVal : Expr → Bool
  | .UnaryOp .Not _ _ => false
  | .BoolOp _ _ _ => false
  | .IfExp _ _ _ _ => false
  | .Compare _ _ _ _ => false
  | _ => true
theorem star_cons {e : Expr} {es : List Expr} {env : Env} (h : isStar e = false) : starEach (e :: es) env = (false, eval e env) :: starEach es env := by
  cases e <;> first | rfl | cases h
theorem star_any {es : List Expr} {pos : Pos} {env : Env} (h : es.all (fun e => !isStar e) = true) : (backTo pos (starEach es env)).any (·.1) = false := by
  induction es with
  | nil => rfl
  | cons e es ih =>
    rw [List.all_cons, Bool.and_eq_true] at h
    rw [star_cons (by simpa using h.1)]
    show (false || (backTo pos (starEach es env)).any (·.1)) = false
    rw [ih h.2]; rfl
theorem star_all {es : List Expr} {pos : Pos} {env : Env} (h : es.all (fun e => !isStar e) = true) : (backTo pos (starEach es env)).all (fun x => !x.1) = true := by
  have := star_any (pos := pos) (env := env) h
  rw [List.all_eq_not_any_not]
  simp only [Bool.not_not]
  rw [this]; rfl
theorem sw_no {e : Expr} {t : Option Expr} {l : Nat} {env : Env} (h : isComp e = false) : swapsWith e t l env = pure false := by
  cases e <;> first | rfl | cases h
theorem marks_no {op : CmpOp} {e : Expr} (h : isSet e = false) : behindInMarks op e = false := by
  cases e <;> first | rfl | cases h
theorem val_is {e : Expr} {env : Env} (h : isVal e = true) : ∀ whole, isTrue e env whole = (do let v ← whole; standAt e.pos; holding [v] (truthy v)) := by
  intro w
  cases e with
  | UnaryOp op a pos => cases op <;> first | rfl | cases h
  | BoolOp _ _ _ => cases h
  | IfExp _ _ _ _ => cases h
  | Compare _ _ _ _ => cases h
  | _ => rfl
theorem plain_ix {b : Expr} (h : isSlice b = false) : PlainIx b := by
  intro o i
  cases b <;> first | rfl | cases h
theorem base_is {o : Expr} {m : Str} {env : Env} (h : isCall o = false) : attributeBase o m env (eval o env) = eval o env := by
  cases o <;> first | rfl | cases h
theorem fold_no {e : Expr} {env : Env} (h : isSet e = false) : ∀ x, foldedSetIterable e env x = pure x := by
  intro x
  cases e <;> first | rfl | cases h
theorem asg_cons {e : Expr} {es : List Expr} {env : Env} (h : isStar e = false) : assignEach (e :: es) env = (false, assign e env) :: assignEach es env := by
  cases e <;> first | rfl | cases h

variable {X : Cx} {e a b c : Expr} {es : List Expr} {ma mb mc : EM} {pos : Pos}

/-! ### constants, names -/
theorem de_int {i j pos} : DE X (.Constant (.int i) j pos) (mC (.int i)) := fun Wx tk => ⟨_, pe_int, snd_c fun _ _ _ => .int i⟩
theorem de_bl {i j pos} : DE X (.Constant (.bool i) j pos) (mC (.bl i)) := fun Wx tk => ⟨_, pe_bl, snd_c fun _ _ _ => .bl i⟩
theorem de_non {j pos} : DE X (.Constant .none j pos) (mC .non) := fun Wx tk => ⟨_, pe_non, snd_c fun _ _ _ => .non⟩
theorem de_str {i j pos} : DE X (.Constant (.str i) j pos) (mC (.str i)) := fun Wx tk => ⟨_, pe_str, snd_c fun _ _ _ => .str i⟩
theorem de_var {x : Str} {i : Nat} (hN : X.N[i]? = some x) (hv : Vis X.env.scope x) (h1 : (x == ("__debug__" : Str)) = false) (h2 : (x == ("__classdict__" : Str)) = false) : DE X (.Name x pos) (mVar i) :=
  fun Wx tk => ⟨_, pe_var hN hv h1 h2, snd_var⟩
theorem de_glob {x : Str} {v : V} {u : Value} {d : D} (hg : Gl X x) (hm : X.mg x = some u) (r : RelV v u) (rd : ∀ av ρ H, Rel ⟨X.K, X.mg, av⟩ ρ H d v) (h1 : (x == ("__debug__" : Str)) = false) : DE X (.Name x pos) (mC d) :=
  fun Wx tk => ⟨_, pe_glob hg hm r h1, snd_c rd⟩
theorem de_ty {x : Str} {n : String} (hg : Gl X x) (hm : X.mg x = none) (hv : bootBuiltins x = some (.type n)) (hn : x ≠ "__name__") (h1 : (x == ("__debug__" : Str)) = false) : DE X (.Name x pos) (mC (.ty n)) :=
  fun Wx tk => ⟨_, pe_bltn (v := .ty n) hg hm hv rfl hn h1, snd_c fun _ _ _ => .ty n⟩

/-! ### displays -/
theorem dl_nil : DL X [] (mL []) := fun Wx tk => ⟨_, pa_nil, snd_nil⟩
theorem dl_cons {ms : List EM} (h : DE X e ma) (hs : DL X es (mL ms)) (st : isStar e = false) : DL X (e :: es) (mL (ma :: ms)) := fun Wx tk =>
  let ⟨_, p1, s1⟩ := h Wx tk
  let ⟨_, p2, s2⟩ := hs Wx tk
  ⟨_, pa_cons p1 p2 (star_cons st), snd_cons s1 s2⟩
theorem de_tup {ms : List EM} {k : Nat} (h : DL X es (mL ms)) : DE X (.Tuple es k pos) (mTup ms) := fun Wx tk =>
  let ⟨_, p, s⟩ := h Wx tk
  ⟨_, pe_tup p, snd_tup s⟩
theorem de_lst {ms : List EM} {mt : Bool} (h : DL X es (mL ms)) : DE X (.List es pos) (mLst mt ms) := fun Wx tk =>
  let ⟨_, p, s⟩ := h Wx tk
  ⟨_, pe_lst p, snd_lst s⟩

/-! ### operators -/
theorem de_add {mt : Bool} (ha : DE X a ma) (hb : DE X b mb) : DE X (.BinOp a .Add b pos) (mOp (addD mt) ma mb) := fun Wx tk =>
  let ⟨_, p1, s1⟩ := ha Wx tk
  let ⟨_, p2, s2⟩ := hb Wx tk
  ⟨_, pe_op op_addD p1 p2, snd_op snd_add s1 s2⟩
theorem de_ar {op : Operator} (ha : DE X a ma) (hb : DE X b mb) : DE X (.BinOp a op b pos) (mOp (arD op) ma mb) := fun Wx tk =>
  let ⟨_, p1, s1⟩ := ha Wx tk
  let ⟨_, p2, s2⟩ := hb Wx tk
  ⟨_, pe_op (op_ar op) p1 p2, snd_op (snd_ar op) s1 s2⟩
theorem de_neg (ha : DE X a ma) : DE X (.UnaryOp .USub a pos) (mNeg ma) := fun Wx tk =>
  let ⟨_, p1, s1⟩ := ha Wx tk
  ⟨_, pe_un un_neg p1, snd_neg s1⟩
theorem de_cmp {op : CmpOp} (hu : X.A.units + 65 < cLine) (ha : DE X a ma) (hb : DE X b mb) (st : isSet b = false) : DE X (.Compare a [op] [b] pos) (mOp (cmpD op) ma mb) := fun Wx tk =>
  let ⟨_, p1, s1⟩ := ha Wx tk
  let ⟨_, p2, s2⟩ := hb Wx tk
  ⟨_, pe_cmpR (opr_cmp hu op) p1 p2 (marks_no st), snd_op (snd_cmp op) s1 s2⟩
/-- a op b op' c -/
def mChain (op op' : CmpOp) (a b c : EM) : EM := fun e st => (a e st).bind fun x st1 => (b e st1).bind fun y st2 => (cmpD op x y st2).bind fun z st3 => match z with
  | .bl true => (c e st3).bind fun w st4 => cmpD op' y w st4
  | .bl false => .ok (.bl false) st3
  | _ => .no
theorem snd_chain {K : PySem.W.Frag} {mg : Str → Option Value} {Wx : WX} {op op' : CmpOp} {ta tb tc : TE} (ha : SndE K mg ta Wx ma) (hb : SndE K mg tb Wx mb) (hc : SndE K mg tc Wx mc) :
    SndE K mg (tChain (rCmp K op) (rCmp K op') ta tb tc) Wx (mChain op op' ma mb mc) := by
  intro av σ e ρ H st Q s er h
  refine ha av σ e ρ H st _ s er ((Post.bind h).imp ?_)
  rintro v H1 ⟨x, ρ1, st1, x1, s1, r1, q1⟩
  refine hb av σ e ρ1 H1 st1 _ s1 (er.ext x1) ((Post.bind q1).imp ?_)
  rintro w H2 ⟨y, ρ2, st2, x2, s2, r2, q2⟩
  refine snd_cmp op av (fun c d H => Wx c d σ H) ρ2 H2 st2 _ x y v w s2 (r1.ext x2) r2 ((Post.bind (rel := Rel ⟨K, mg, av⟩) q2).imp ?_)
  rintro z H3 ⟨zd, ρ3, st3, x3, s3, r3, q3⟩
  split at q3
  · cases r3
    refine ⟨true, rfl, ?_⟩
    rw [if_pos rfl]
    refine hc av σ e ρ3 H3 st3 _ s3 (((er.ext x1).ext x2).ext x3) ((Post.bind q3).imp ?_)
    rintro u H4 ⟨ud, ρ4, st4, x4, s4, r4, q4⟩
    exact snd_cmp op' av _ ρ4 H4 st4 Q y ud w u s4 ((r2.ext x3).ext x4) r4 q4
  · cases r3
    refine ⟨false, rfl, ?_⟩
    rw [if_neg (by simp)]
    exact q3.ok s3 (.bl false)
  · exact q3.elim
theorem marks_no2 {op op' : CmpOp} (h2 : isSet c = false) : lastMarks [op, op'] [b, c] = false := by
  show lastMarks [op'] [c] = false
  exact marks_no h2
theorem de_chain {op op' : CmpOp} (hu : X.A.units + 65 < cLine) (ha : DE X a ma) (hb : DE X b mb) (hc : DE X c mc) (st : isSet c = false) : DE X (.Compare a [op, op'] [b, c] pos) (mChain op op' ma mb mc) := fun Wx tk =>
  let ⟨_, p1, s1⟩ := ha Wx tk
  let ⟨_, p2, s2⟩ := hb Wx tk
  let ⟨_, p3, s3⟩ := hc Wx tk
  ⟨_, pe_chain (opr_cmp hu op) (opr_cmp hu op') p1 p2 p3 (marks_no2 st), snd_chain s1 s2 s3⟩
theorem de_and1 {op : BoolOp} (ha : DE X a ma) : DE X (.BoolOp op [a] pos) ma := fun Wx tk =>
  let ⟨_, p1, s1⟩ := ha Wx tk
  ⟨_, pe_one p1, s1⟩
theorem de_and (ha : DE X a ma) (hb : DE X (.BoolOp .And (b :: es) pos) mb) : DE X (.BoolOp .And (a :: b :: es) pos) (mAnd ma mb) := fun Wx tk =>
  let ⟨_, p1, s1⟩ := ha Wx tk
  let ⟨_, p2, s2⟩ := hb Wx tk
  ⟨_, pe_andT p1 p2, snd_andV s1 s2⟩
theorem de_or (ha : DE X a ma) (hb : DE X (.BoolOp .Or (b :: es) pos) mb) : DE X (.BoolOp .Or (a :: b :: es) pos) (mOr ma mb) := fun Wx tk =>
  let ⟨_, p1, s1⟩ := ha Wx tk
  let ⟨_, p2, s2⟩ := hb Wx tk
  ⟨_, pe_orT p1 p2, snd_orV s1 s2⟩
theorem de_not (ha : DE X a ma) : DE X (.UnaryOp .Not a pos) (mNot ma) := fun Wx tk =>
  let ⟨_, p1, s1⟩ := ha Wx tk
  ⟨_, pe_notT p1, snd_notV s1⟩
theorem de_if {tc : TM} (hc : DT X c tc) (ha : DE X a ma) (hb : DE X b mb) : DE X (.IfExp c a b pos) (mIf tc ma mb) := fun Wx tk =>
  let ⟨_, p0, s0⟩ := hc Wx tk
  let ⟨_, p1, s1⟩ := ha Wx tk
  let ⟨_, p2, s2⟩ := hb Wx tk
  ⟨_, pe_ifExp p0 p1 p2, snd_if s0 s1 s2⟩

/-! ### tests -/
variable {ta tb : TM}
theorem dt_val (ha : DE X a ma) (h : isVal a = true) : DT X a (mTru ma) := fun Wx tk =>
  let ⟨_, p1, s1⟩ := ha Wx tk
  ⟨_, pt_truth p1 (val_is h), snd_tru s1⟩
theorem dt_cmp {op : CmpOp} (hu : X.A.units + 65 < cLine) (ha : DE X a ma) (hb : DE X b mb) (st : isSet b = false) : DT X (.Compare a [op] [b] pos) (mTst (mOp (cmpD op) ma mb)) := fun Wx tk =>
  let ⟨_, p1, s1⟩ := ha Wx tk
  let ⟨_, p2, s2⟩ := hb Wx tk
  ⟨_, pt_cmpR (opr_cmp hu op) p1 p2 (marks_no st), snd_tst (snd_op (snd_cmp op) s1 s2)⟩
theorem dt_chain {op op' : CmpOp} (hu : X.A.units + 65 < cLine) (ha : DE X a ma) (hb : DE X b mb) (hc : DE X c mc) (st : isSet c = false) : DT X (.Compare a [op, op'] [b, c] pos) (mTst (mChain op op' ma mb mc)) := fun Wx tk =>
  let ⟨_, p1, s1⟩ := ha Wx tk
  let ⟨_, p2, s2⟩ := hb Wx tk
  let ⟨_, p3, s3⟩ := hc Wx tk
  ⟨_, pt_chain (opr_cmp hu op) (opr_cmp hu op') p1 p2 p3 (marks_no2 st), snd_tst (snd_chain s1 s2 s3)⟩
theorem dt_not (ha : DT X a ta) : DT X (.UnaryOp .Not a pos) (tmNot ta) := fun Wx tk =>
  let ⟨_, p1, s1⟩ := ha Wx tk
  ⟨_, pt_not p1, snd_not s1⟩
def DW (X : Cx) (e : Expr) (m : TM) : Prop := ∀ Wx, Takes X Wx → ∃ t, PW X e t ∧ SndT X.K X.mg t Wx m
theorem dw_and1 (ha : DT X a ta) : DW X (.BoolOp .And [a] pos) ta := fun Wx tk =>
  let ⟨_, p1, s1⟩ := ha Wx tk
  ⟨_, pw_and1 p1, s1⟩
theorem dw_or1 (ha : DT X a ta) : DW X (.BoolOp .Or [a] pos) ta := fun Wx tk =>
  let ⟨_, p1, s1⟩ := ha Wx tk
  ⟨_, pw_or1 p1, s1⟩
theorem dw_and (ha : DT X a ta) (hb : DW X (.BoolOp .And (b :: es) pos) tb) : DW X (.BoolOp .And (a :: b :: es) pos) (tmAnd ta tb) := fun Wx tk =>
  let ⟨_, p1, s1⟩ := ha Wx tk
  let ⟨_, p2, s2⟩ := hb Wx tk
  ⟨_, pw_and p1 p2, snd_and s1 s2⟩
theorem dw_or (ha : DT X a ta) (hb : DW X (.BoolOp .Or (b :: es) pos) tb) : DW X (.BoolOp .Or (a :: b :: es) pos) (tmOr ta tb) := fun Wx tk =>
  let ⟨_, p1, s1⟩ := ha Wx tk
  let ⟨_, p2, s2⟩ := hb Wx tk
  ⟨_, pw_or p1 p2, snd_or s1 s2⟩
theorem dw_dt {e : Expr} (h : DW X e ta) : DT X e ta := fun Wx tk =>
  let ⟨_, p1, s1⟩ := h Wx tk
  ⟨_, p1.pt, s1⟩

/-! ### subscripts, slices -/
theorem de_ix (hu : X.A.units + 1 < cLine) (ha : DE X a ma) (hb : DE X b mb) (h : isSlice b = false) : DE X (.Subscript a b pos) (mOp ixD ma mb) := fun Wx tk =>
  let ⟨_, p1, s1⟩ := ha Wx tk
  let ⟨_, p2, s2⟩ := hb Wx tk
  ⟨_, pe_ix (ix_seq.or (ix_dct hu)) p1 p2 (plain_ix h), snd_op snd_ix s1 s2⟩
theorem de_dget (hu : X.A.units + 1 < cLine) (ha : DE X a ma) (hb : DE X b mb) (h : isSlice b = false) : DE X (.Subscript a b pos) (mDGet ma mb) := fun Wx tk =>
  let ⟨_, p1, s1⟩ := ha Wx tk
  let ⟨_, p2, s2⟩ := hb Wx tk
  ⟨_, pe_dget hu p1 p2 (plain_ix h), snd_dget s1 s2⟩
def DP (X : Cx) (e : Option Expr) (m : PM) : Prop := ∀ Wx, Takes X Wx → ∃ t, PO X e t ∧ SndP X.K X.mg t Wx m
theorem dp_none : DP X none pmNone := fun Wx tk => ⟨_, po_none, snd_pnone⟩
theorem dp_some (ha : DE X a ma) : DP X (some a) (pmSome ma) := fun Wx tk =>
  let ⟨_, p1, s1⟩ := ha Wx tk
  ⟨_, po_some p1, snd_psome s1⟩
theorem de_slice {mt : Bool} {lo hi : Option Expr} {ml mh : PM} {p2 : Pos} (ha : DE X a ma) (hl : DP X lo ml) (hh : DP X hi mh) : DE X (.Subscript a (.Slice lo hi none p2) pos) (mSlice mt ma ml mh) := fun Wx tk =>
  let ⟨_, p1, s1⟩ := ha Wx tk
  let ⟨_, q2, s2⟩ := hl Wx tk
  let ⟨_, q3, s3⟩ := hh Wx tk
  ⟨_, pe_slice sl_D p1 q2 q3, snd_slice s1 s2 s3⟩

/-! ### builtins -/
variable {x : Str} {p : Pos} {r : List V → Hp → VK → Prop} {f : List D → Sto → R D} {ms : List EM}
theorem de_callB {id : String} (hc : CallR X (.builtin id) r) (hs : SndC X.K X.mg r f) (hg : Gl X x) (hm : X.mg x = none) (hv : bootBuiltins x = some (.builtin id)) (hn : x ≠ "__name__") (h1 : (x == ("__debug__" : Str)) = false)
    (ha : DL X (e :: es) (mL ms)) (st : (e :: es).all (fun e => !isStar e) = true) : DE X (.Call (.Name x p) (e :: es) [] pos) (mCall f ms) := fun Wx tk =>
  let ⟨_, p1, s1⟩ := ha Wx tk
  ⟨_, pe_callB hc hg hm hv p1 hn h1 (star_cons (by rw [List.all_cons, Bool.and_eq_true] at st; simpa using st.1)) (star_any (by rw [List.all_cons, Bool.and_eq_true] at st; exact st.2)), snd_callB hs s1⟩
theorem de_callT {T : String} (hc : CallR X (.type T) r) (hs : SndC X.K X.mg r f) (hg : Gl X x) (hm : X.mg x = none) (hv : bootBuiltins x = some (.type T)) (hn : x ≠ "__name__") (h1 : (x == ("__debug__" : Str)) = false)
    (ha : DL X (e :: es) (mL ms)) (st : (e :: es).all (fun e => !isStar e) = true) : DE X (.Call (.Name x p) (e :: es) [] pos) (mCall f ms) := fun Wx tk =>
  let ⟨_, p1, s1⟩ := ha Wx tk
  ⟨_, pe_callTy hc hg hm hv p1 hn h1 (star_cons (by rw [List.all_cons, Bool.and_eq_true] at st; simpa using st.1)) (star_any (by rw [List.all_cons, Bool.and_eq_true] at st; exact st.2)), snd_callB hs s1⟩
/-- methods of lists -/
theorem de_meth {o : Expr} {mo : EM} {name : Str} {id : String} {apos : Pos} {r : V → List V → Hp → VK → Prop} {f : Nat → List D → List D → Sto → R D} (slot : Slot "list" name id) (hty : typeOf (.builtin id) = pure (.type "method_descriptor")) (hm : MtR X id r) (hs : SndM X.K X.mg r f)
    (ho : DE X o mo) (ha : DL X (e :: es) (mL ms)) (st : (e :: es).all (fun e => !isStar e) = true) (nc : isCall o = false) (few : (e :: es).length < 30) (line : (apos.endLine == pos.line) = true) : DE X (.Call (.Attribute o name apos) (e :: es) [] pos) (mMeth f mo ms) := fun Wx tk =>
  let ⟨_, p0, s0⟩ := ho Wx tk
  let ⟨_, p1, s1⟩ := ha Wx tk
  ⟨_, pe_bm PySem.F.plainAttrs_list slot hty hm p0 p1 (base_is nc) (by
      rw [star_all st]
      show (true && true && decide ((e :: es).length + 0 + 0 < 30)) = true
      rw [decide_eq_true (show (e :: es).length + 0 + 0 < 30 from few)]; rfl) line (star_cons (by rw [List.all_cons, Bool.and_eq_true] at st; simpa using st.1)) (star_any (by rw [List.all_cons, Bool.and_eq_true] at st; exact st.2)), snd_meth hs s0 s1⟩
theorem de_meth0 {o : Expr} {mo : EM} {name : Str} {id : String} {apos : Pos} {r : V → List V → Hp → VK → Prop} {f : Nat → List D → List D → Sto → R D} (slot : Slot "list" name id) (hty : typeOf (.builtin id) = pure (.type "method_descriptor")) (hm : MtR X id r) (hs : SndM X.K X.mg r f)
    (ho : DE X o mo) (nc : isCall o = false) (line : (apos.endLine == pos.line) = true) : DE X (.Call (.Attribute o name apos) [] [] pos) (mMeth f mo []) := fun Wx tk =>
  let ⟨_, p0, s0⟩ := ho Wx tk
  ⟨_, pe_bm0 PySem.F.plainAttrs_list slot hty hm p0 (base_is nc) line, snd_meth0 hs s0⟩
/-- {k: v, ..} -/
def DPs (X : Cx) (pos : Pos) (keys : List (Option Expr)) (vals : List Expr) (ps : List (EM × EM)) : Prop := ∀ Wx, Takes X Wx → ∃ trs, PPs X pos keys vals trs ∧ SndPs X.K X.mg trs Wx ps
theorem dps_nil : DPs X pos [] [] [] := fun Wx tk => ⟨_, pps_nil, snd_pnil⟩
theorem dps_cons {k v : Expr} {mk mv : EM} {ks : List (Option Expr)} {vs : List Expr} {ps : List (EM × EM)} (hk : DE X k mk) (hv : DE X v mv) (h : DPs X pos ks vs ps) : DPs X pos (some k :: ks) (v :: vs) ((mk, mv) :: ps) := fun Wx tk =>
  let ⟨_, p1, s1⟩ := hk Wx tk
  let ⟨_, p2, s2⟩ := hv Wx tk
  let ⟨_, p3, s3⟩ := h Wx tk
  ⟨_, pps_cons p1 p2 p3, snd_pcons s1 s2 s3⟩
theorem de_dict {keys : List (Option Expr)} {vals : List Expr} {ps : List (EM × EM)} (h : DPs X pos keys vals ps) (hall : keys.all (·.isSome) = true) (hl : keys.length = vals.length) (h0 : keys ≠ []) (h15 : keys.length ≤ 15) : DE X (.Dict keys vals pos) (mDict ps) := fun Wx tk =>
  let ⟨_, p1, s1⟩ := h Wx tk
  ⟨_, pe_disp p1 hall hl h0 h15, snd_dict s1⟩

/-! ### calls of defs -/
def DK (X : Cx) (kws : List Keyword) (m : LM) : Prop := ∀ Wx, Takes X Wx → ∃ t, PK X kws t ∧ SndL X.K X.mg t Wx m
theorem dk_nil : DK X [] (mL []) := fun Wx tk => ⟨_, pk_nil, snd_nil⟩
theorem dk_cons {nm : Option Str} {kpos : Pos} {kws : List Keyword} (h : DE X e ma) (hs : DK X kws (mL ms)) : DK X (⟨nm, e, kpos⟩ :: kws) (mL (ma :: ms)) := fun Wx tk =>
  let ⟨_, p1, s1⟩ := h Wx tk
  let ⟨_, p2, s2⟩ := hs Wx tk
  ⟨_, pk_cons p1 p2, snd_cons s1 s2⟩
theorem kw_all {kws : List Keyword} {env : Env} (h : kws.all (fun k => k.arg.isSome) = true) : (backToKw pos (keywordEach kws env)).all (·.1.isSome) = true := by
  induction kws with
  | nil => rfl
  | cons k ks ih =>
    obtain ⟨nm, v, kp⟩ := k
    rw [List.all_cons, Bool.and_eq_true] at h
    show (nm.isSome && (backToKw pos (keywordEach ks env)).all (·.1.isSome)) = true
    rw [ih h.2, show nm.isSome = true from h.1]; rfl
theorem kw_none {kws : List Keyword} {env : Env} (h : kws.all (fun k => k.arg.isSome) = true) : (backToKw pos (keywordEach kws env)).any (·.1.isNone) = false := by
  induction kws with
  | nil => rfl
  | cons k ks ih =>
    obtain ⟨nm, v, kp⟩ := k
    rw [List.all_cons, Bool.and_eq_true] at h
    show (nm.isNone || (backToKw pos (keywordEach ks env)).any (·.1.isNone)) = false
    have e : nm.isSome = true := h.1
    cases nm with
    | none => cases e
    | some y => rw [ih h.2]; rfl
theorem kw_names {kws : List Keyword} {env : Env} : (backToKw pos (keywordEach kws env)).filterMap (·.1) = kws.filterMap (·.arg) := by
  induction kws with
  | nil => rfl
  | cons k ks ih =>
    obtain ⟨nm, v, kp⟩ := k
    show List.filterMap (·.1) ((nm, _) :: backToKw pos (keywordEach ks env)) = _
    rw [List.filterMap_cons, List.filterMap_cons, ih]
theorem de_fn {k : Nat} {g : Addr} {fd : FuncData} {F : FI} {perm : List Nat} {kws : List Keyword} {mk : List EM} (G : FnG X.prog X.w X.K X.mg X.base k g fd F.ps (spF X.K X.mg F)) (fr : Free X.A) (hr : Room k X.A) (hg : Gl X x) (hm : X.mg x = some (.ref g)) (hk : PySem.W.keepIn X.K (.ref g) = true)
    (hb : Bnd fd F.ps es.length (kws.filterMap (·.arg)) perm) (ha : DL X es (mL ms)) (hw : DK X kws (mL mk)) (l1 : ms.length = es.length) (l2 : mk.length = (kws.filterMap (·.arg)).length) (h1 : (x == ("__debug__" : Str)) = false) (st : es.all (fun e => !isStar e) = true) (sk : kws.all (fun k => k.arg.isSome) = true) :
    DE X (.Call (.Name x p) es kws pos) (mFn F perm ms mk) := fun Wx tk => by
  obtain ⟨t1, p1, s1⟩ := ha Wx tk
  obtain ⟨t2, p2, s2⟩ := hw Wx tk
  cases es with
  | nil =>
    have e0 : ms = [] := List.length_eq_zero_iff.mp l1
    subst e0
    refine ⟨_, pe_fn0 G fr hr tk hg hm hk hb p2 (kw_all sk) kw_names h1 (by rw [kw_none sk]; rfl), ?_⟩
    have := snd_fn (F := F) (perm := perm) (ms := []) (mk := mk) (snd_nil (K := X.K) (mg := X.mg) (Wx := Wx)) s2
    rw [l2] at this
    exact this
  | cons e es =>
    have st2 := st
    rw [List.all_cons, Bool.and_eq_true] at st2
    refine ⟨_, pe_fn G fr hr tk hg hm hk hb p1 p2 (kw_all sk) kw_names h1 (star_cons (by simpa using st2.1)) (by rw [star_any st, kw_none sk]; rfl), ?_⟩
    have := snd_fn (F := F) (perm := perm) (ms := ms) (mk := mk) s1 s2
    rw [l2, l1] at this
    exact this
end DX

/-! DxK: statements, loops, comprehensions: one rule a construct. -/
set_option linter.all false
set_option maxRecDepth 100000
set_option Elab.async false
namespace DX
open PySem PySem.Spec PyProof.Rows L2

/-! ### one reading for all contexts -/
def tOf (K : PySem.W.Frag) (mg : Str → Option Value) (Wx : WX) (m : EM) : TE := fun σ H Q => ∃ av e ρ st, SR ⟨K, mg, av⟩ ρ H st ∧ ER ⟨K, mg, av⟩ ρ H e σ ∧ Post ⟨K, mg, av⟩ (Rel ⟨K, mg, av⟩) (fun c d H => Wx c d σ H) ρ H Q (m e st)
def tOfT (K : PySem.W.Frag) (mg : Str → Option Value) (Wx : WX) (m : TM) : TT := fun σ H Q => ∃ av e ρ st, SR ⟨K, mg, av⟩ ρ H st ∧ ER ⟨K, mg, av⟩ ρ H e σ ∧ Post ⟨K, mg, av⟩ (fun _ _ a b => a = b) (fun c d H => Wx c d σ H) ρ H Q (m e st)
theorem snd_tOf {K : PySem.W.Frag} {mg : Str → Option Value} {Wx : WX} {m : EM} : SndE K mg (tOf K mg Wx m) Wx m := fun av σ e ρ H st Q s er h => ⟨av, e, ρ, st, s, er, h⟩
theorem snd_tOfT {K : PySem.W.Frag} {mg : Str → Option Value} {Wx : WX} {m : TM} : SndT K mg (tOfT K mg Wx m) Wx m := fun av σ e ρ H st Q s er h => ⟨av, e, ρ, st, s, er, h⟩
theorem DE.pe {X : Cx} {e : Expr} {m : EM} {Wx : WX} (h : DE X e m) (tk : Takes X Wx) : PE X e (tOf X.K X.mg Wx m) := by
  obtain ⟨t, p, s⟩ := h Wx tk
  exact ⟨fun pins sh σ H Q I ⟨av, e, ρ, st, sr, er, q⟩ => p.run pins sh σ H Q I (s av σ e ρ H st Q sr er q)⟩
theorem DT.pt {X : Cx} {e : Expr} {m : TM} {Wx : WX} (h : DT X e m) (tk : Takes X Wx) : PT X e (tOfT X.K X.mg Wx m) := by
  obtain ⟨t, p, s⟩ := h Wx tk
  exact ⟨fun pins sh σ H Q I ⟨av, e, ρ, st, sr, er, q⟩ => p.run pins sh σ H Q I (s av σ e ρ H st Q sr er q)⟩

/-! ### targets -/
mutual
inductive Tg where
  | name (i : Nat) | tup (l : Tgs)
inductive Tgs where
  | nil | cons (a : Tg) (l : Tgs)
end
def Tgs.len : Tgs → Nat
  | .nil => 0
  | .cons _ l => l.len + 1
mutual
def Tg.g (K : PySem.W.Frag) : Tg → TG
  | .name i => gName i
  | .tup l => gTup K l.len (l.g K)
def Tgs.g (K : PySem.W.Frag) : Tgs → TGs
  | .nil => gNil
  | .cons a l => gCons (a.g K) (l.g K)
end
mutual
def Tg.m : Tg → GM
  | .name i => gmName i
  | .tup l => gmTup l.len l.m
def Tgs.m : Tgs → List D → Sl → Option Sl
  | .nil => gmsNil
  | .cons a l => gmsCons a.m l.m
end
mutual
def Tg.at : Tg → List Nat
  | .name i => [i]
  | .tup l => l.at
def Tgs.at : Tgs → List Nat
  | .nil => []
  | .cons a l => a.at ++ l.at
end
section
variable {K : PySem.W.Frag} {mg : Str → Option Value}
mutual
theorem Tg.snd : ∀ t : Tg, SndG K mg (t.g K) t.m
  | .name i => snd_gname
  | .tup l => snd_gtup (Tgs.snd l)
theorem Tgs.snd : ∀ t : Tgs, SndGs K mg (t.g K) t.m
  | .nil => snd_gnil
  | .cons a l => snd_gcons (Tg.snd a) (Tgs.snd l)
end
mutual
theorem Tg.mono : ∀ t : Tg, GMono (t.g K)
  | .name i => gmono_name
  | .tup l => gmono_tup (Tgs.mono l)
theorem Tgs.mono : ∀ t : Tgs, GsMono (t.g K)
  | .nil => gmono_nil
  | .cons a l => gmono_cons (Tg.mono a) (Tgs.mono l)
end
mutual
theorem Tg.keeps {vs : List Nat} : ∀ t : Tg, (∀ i ∈ t.at, i ∈ vs) → GW (t.g K) vs
  | .name i, h => gw_name (h i (by simp [Tg.at]))
  | .tup l, h => gw_tup (Tgs.keeps l h)
theorem Tgs.keeps {vs : List Nat} : ∀ t : Tgs, (∀ i ∈ t.at, i ∈ vs) → GsW (t.g K) vs
  | .nil, _ => gw_nil
  | .cons a l, h => gw_cons (Tg.mono a) (Tgs.mono l) (Tg.keeps a fun i hi => h i (List.mem_append_left _ hi)) (Tgs.keeps l fun i hi => h i (List.mem_append_right _ hi))
end
end
theorem pg_cons {X : Cx} {e : Expr} {es : List Expr} {a : Tg} {l : Tgs} (h1 : PG X e (a.g X.K)) (h2 : PGs X es (l.g X.K)) (st : isStar e = false) : PGs X (e :: es) ((Tgs.cons a l).g X.K) :=
  pgs_cons h1 h2 (by rw [asg_cons st]; rfl)
theorem asg_len {es : List Expr} {env : Env} (h : es.all (fun e => !isStar e) = true) : (assignEach es env).length = es.length ∧ (assignEach es env).findIdx? (·.1) = none := by
  induction es with
  | nil => exact ⟨rfl, rfl⟩
  | cons e es ih =>
    rw [List.all_cons, Bool.and_eq_true] at h
    obtain ⟨i1, i2⟩ := ih h.2
    rw [asg_cons (by simpa using h.1)]
    refine ⟨by rw [List.length_cons, List.length_cons, i1], ?_⟩
    rw [List.findIdx?_cons]
    simp [i2]
theorem pg_tupT {X : Cx} {es : List Expr} {k : Nat} {l : Tgs} {pos : Pos} (hc : X.calm = true) (h : PGs X es (l.g X.K)) (st : es.all (fun e => !isStar e) = true) (hl : l.len = es.length) : PG X (.Tuple es k pos) ((Tg.tup l).g X.K) := by
  have := asg_len (env := X.env) st
  exact pg_tup hc h (by rw [this.1, hl]) this.2

variable {X : Cx} {e a b c : Expr} {es : List Expr} {ma mb mc : EM} {ta tb : TM} {pos : Pos} {s : Stmt} {ss : List Stmt} {m n : SM}

/-! ### blocks -/
theorem dss_nil : DSs X [] sNx := fun Wx tk => ⟨_, pss_nil, snd_nx⟩
theorem dss_cons (h1 : DS X s m) (h2 : DSs X ss n) : DSs X (s :: ss) (sSeq m n) := fun Wx tk =>
  let ⟨_, p1, s1⟩ := h1 Wx tk
  let ⟨_, p2, s2⟩ := h2 Wx tk
  ⟨_, pss_cons p1 p2, snd_seq s1 s2⟩
theorem dss_one (h1 : DS X s m) : DSs X [s] m := fun Wx tk =>
  let ⟨_, p1, s1⟩ := h1 Wx tk
  ⟨_, pss_one p1, s1⟩
theorem ds_pass : DS X (.Pass pos) sNx := fun Wx tk => ⟨_, ps_pass, snd_nx⟩
theorem ds_break : DS X (.Break pos) (fun e st => .bk e st) := fun Wx tk => ⟨_, ps_break, snd_brk⟩
theorem ds_cont : DS X (.Continue pos) (fun e st => .ct e st) := fun Wx tk => ⟨_, ps_continue, snd_cont⟩
theorem ds_expr (ha : DE X a ma) (nc : isComp a = false) : DS X (.Expr a pos) (sExpr ma) := fun Wx tk =>
  let ⟨_, p1, s1⟩ := ha Wx tk
  ⟨_, ps_expr p1 (sw_no nc), snd_expr s1⟩
theorem ds_ret (ha : DE X a ma) : DS X (.Return (some a) pos) (sRet ma) := fun Wx tk =>
  let ⟨_, p1, s1⟩ := ha Wx tk
  ⟨_, ps_ret p1, snd_ret s1⟩
theorem ds_retN : DS X (.Return none pos) (fun _ st => .rt .non st) := fun Wx tk => ⟨_, ps_retN, snd_retN⟩
theorem ds_if {b1 b2 : List Stmt} {m1 m2 : SM} (hc : DT X c ta) (h1 : DSs X b1 m1) (h2 : DSs X b2 m2) : DS X (.If c b1 b2 pos) (sIf ta m1 m2) := fun Wx tk =>
  let ⟨_, p0, s0⟩ := hc Wx tk
  let ⟨_, p1, s1⟩ := h1 Wx tk
  let ⟨_, p2, s2⟩ := h2 Wx tk
  ⟨_, ps_if p0 p1 p2, snd_ifS s0 s1 s2⟩
theorem ds_set {x : Str} {i : Nat} {p : Pos} (hN : X.N.Nodup) (hi : X.N[i]? = some x) (hx : Loc X.env.scope x) (hf : X.fn x = true ∨ X.env.scope.names.lookup x = some .local) (ha : DE X a ma) (nc : isComp a = false) : DS X (.Assign [.Name x p] a pos) (sAsg ma (gmName i)) := fun Wx tk =>
  let ⟨_, p1, s1⟩ := ha Wx tk
  ⟨_, ps_set hN hi hx p1 (sw_no nc) hf, snd_asg s1 snd_gname⟩
theorem ds_asgT {ts : List Expr} {k : Nat} {p : Pos} {t : Tg} (hg : PG X (.Tuple ts k p) (t.g X.K)) (ha : DE X a ma) (hw : swappedStores [.Tuple ts k p] a X.env = pure none) : DS X (.Assign [.Tuple ts k p] a pos) (sAsg ma t.m) := fun Wx tk =>
  let ⟨_, p1, s1⟩ := ha Wx tk
  ⟨_, ps_asg p1 hg (by
      show swapsWith a (some (.Tuple ts k p)) pos.line X.env = pure false
      cases a <;> rfl) hw rfl, snd_asg s1 (Tg.snd t)⟩
theorem ds_par {x y : Str} {i j : Nat} {px py pt : Pos} {kt k2 : Nat} {pt2 : Pos} (hc : X.calm = true) (hN : X.N.Nodup) (hi : X.N[i]? = some x) (hj : X.N[j]? = some y) (hij : i ≠ j) (hx : X.env.scope.names.lookup x = some .local) (hy : X.env.scope.names.lookup y = some .local)
    (ha : DE X a ma) (hb : DE X b mb) (sa : isStar a = false) (sb : isStar b = false) (hw : swappedStores [.Tuple [.Name x px, .Name y py] kt pt] (.Tuple [a, b] k2 pt2) X.env = pure (some [x, y])) :
    DS X (.Assign [.Tuple [.Name x px, .Name y py] kt pt] (.Tuple [a, b] k2 pt2) pos) (sPar i j ma mb) := fun Wx tk =>
  let ⟨_, p1, s1⟩ := dl_cons ha (dl_cons hb dl_nil sb) sa Wx tk
  ⟨_, ps_par hc hN hi hj hij hx hy p1 hw rfl, snd_par s1⟩
theorem ds_dput {o : Expr} {mo : EM} {p : Pos} (hu : X.A.units + 1 < cLine) (ho : DE X o mo) (hb : DE X b mb) (ha : DE X a ma) (nc : isComp a = false) : DS X (.Assign [.Subscript o b p] a pos) (sDPutM mo mb ma) := fun Wx tk =>
  let ⟨_, p0, s0⟩ := ho Wx tk
  let ⟨_, p1, s1⟩ := hb Wx tk
  let ⟨_, p2, s2⟩ := ha Wx tk
  ⟨_, ps_dput hu p0 p1 p2 (sw_no nc), snd_dput s0 s1 s2⟩

theorem ds_lput {o b a : Expr} {mo mb ma : EM} {p pos : Pos} (hb0 : isSlice b = false) (ho : DE X o mo) (hb : DE X b mb) (ha : DE X a ma) : DS X (.Assign [.Subscript o b p] a pos) (sLPutM mo mb ma) := fun Wx tk =>
  let ⟨_, p0, s0⟩ := ho Wx tk
  let ⟨_, p1, s1⟩ := hb Wx tk
  let ⟨_, p2, s2⟩ := ha Wx tk
  ⟨_, ps_asg p2 (pg_sub p0 p1 set_list (by intro v; cases b <;> first | rfl | cases hb0)) (by
      show swapsWith a (some (.Subscript o b p)) pos.line X.env = pure false
      cases a <;> rfl) (by cases a <;> rfl) rfl, snd_lput s0 s1 s2⟩

/-! ### what is walked -/
def DI (X : Cx) (tg iter : Expr) (m : IM) : Prop := ∀ Wx, Takes X Wx → ∃ w, PI X tg iter w ∧ SndI X.K X.mg w Wx m
def Rb (lo hi : Int) : Prop := -(2 ^ 62) ≤ lo ∧ lo < 2 ^ 62 ∧ -(2 ^ 62) ≤ hi ∧ hi < 2 ^ 62
instance (lo hi : Int) : Decidable (Rb lo hi) := by unfold Rb; infer_instance
def iSeq (K : PySem.W.Frag) (tl : TE) : TI := fun σ H R => tl σ H fun x H1 => ∃ a, x = .ref a ∧ (((∃ xs, SqL K H1 a xs) ∧ R (Itl K a) H1) ∨ ((∃ xs, SqT K H1 a xs) ∧ R (Itt K a) H1) ∨ ∃ lo hi, H1 a = some (.rng lo hi) ∧ Rb lo hi ∧ R (L2.Itr lo (hi - lo).toNat) H1)
/-- a range that was kept, walked -/
theorem range_itS {X : Cx} {tg : Expr} {pins : List (Addr × Obj)} {σ : L2.St} {H : Hp} {s : Shared} {R : It → Hp → Prop} {E : Value → Shared → Prop} {lo hi : Int} {a : Addr} (I : Inv X pins σ H s) (e : H a = some (.rng lo hi)) (h : Rb lo hi)
    (q : R (L2.Itr lo (hi - lo).toNat) H) : wpAny (model X.prog X.w) X.A (pyIter (.ref a)) (PIE X pins σ tg R) E s := by
  obtain ⟨h1, h2, h3, h4⟩ := h
  obtain ⟨t, u, v, he⟩ := I.hok a _ e
  refine wpAny_pyIter_range (show IsRange s.heap a lo hi 1 t u v from he) (small_one h1 h2 h3 h4) ?_
  refine ⟨s.heap.objs.size, [s.heap.objs.size], _, _, H, rfl, I.kept (t' := s.toks) fun b o e => Heap.get?_push_of_some _ e, turn_range _ lo (hi - lo).toNat, ?_, fun b hb => ?_, q⟩
  · have e1 : lo + ((0 : Nat) : Int) * 1 = lo := by simp
    have e2 : (((hi - lo).toNat : Nat) : Int) - ((0 : Nat) : Int) = Builtin.Range.rangeSize lo hi 1 := by rw [rangeSize_one]; split <;> omega
    show IsRangeIter _ _ (lo + ((0 : Nat) : Int) * 1) ((((hi - lo).toNat : Nat) : Int) - ((0 : Nat) : Int)) 1
    rw [e1, e2]
    exact Heap.get?_push_size _ rfl
  · have e : b = s.heap.objs.size := by simpa using hb
    subst e
    exact I.fpOk (Nat.le_refl _) (I.hok.fresh (Nat.le_refl _))
theorem pi_seq {X : Cx} {tg l : Expr} {tl : TE} (hl : PE X l tl) : PI X tg l (iSeq X.K tl) := by
  constructor
  intro pins s σ H R I h
  apply thn (hl.run pins s σ H _ I h)
  rintro v s1 ⟨x, H1, I1, r1, a, rfl, q⟩
  cases r1
  have new : ∀ b ∈ [s1.heap.objs.size], FpOk X pins H1 b := by
    intro b hb
    rw [List.mem_singleton.mp hb]
    exact I1.fpOk (Nat.le_refl _) I1.fresh
  rcases q with ⟨⟨xs, hq⟩, q⟩ | ⟨⟨xs, hq⟩, q⟩ | ⟨lo, hi, e, hb, q⟩
  · obtain ⟨its, rv, pl, _⟩ := I1.list hq
    apply wpAny_pyIter_list pl.isList
    exact ⟨_, _, _, _, H1, rfl, I1.kept (t' := s1.toks) fun b o e => Heap.get?_push_of_some _ e, turn_list a _, ⟨_, Heap.get?_push_size _ rfl, rfl, rfl⟩, new, q⟩
  · obtain ⟨its, rv, pl, _⟩ := I1.tuple hq
    apply wpAny_pyIter_tuple (show s1.heap.IsTuple a its.toArray from pl)
    exact ⟨_, _, _, _, H1, rfl, I1.kept (t' := s1.toks) fun b o e => Heap.get?_push_of_some _ e, turn_tuple a _, ⟨_, Heap.get?_push_size _ rfl, rfl, rfl⟩, new, q⟩
  · exact range_itS I1 e hb q
/-- the bounds of a range of the store -/
def rngOf (st : Sto) : D → Option (Int × Int)
  | .loc n => match st[n]? with
    | some (.rng lo hi) => some (lo, hi)
    | _ => none
  | _ => none
def imSeq (m : EM) : IM := fun e st => (m e st).bind fun d st1 => match seqItems st1 d with
  | some _ => .ok (.seq d) st1
  | none => match rngOf st1 d with
    | some p => if Rb p.1 p.2 then .ok (.rng p.1 (p.2 - p.1).toNat) st1 else .no
    | none => .no
theorem Rel.rng {W : Wd} {ρ : List Addr} {H : Hp} {st : Sto} (s : SR W ρ H st) {d : D} {v : V} {p : Int × Int} (r : Rel W ρ H d v) (e : rngOf st d = some p) : ∃ a, v = .ref a ∧ H a = some (.rng p.1 p.2) := by
  cases r with
  | @loc n a q =>
    unfold rngOf at e
    cases z : st[n]? with
    | none => simp [z] at e
    | some o => cases o with
      | rng lo hi =>
        simp only [z] at e
        cases e
        exact ⟨a, rfl, s.at_ n a _ q z⟩
      | _ => simp [z] at e
  | _ => cases e
theorem snd_iseq {K : PySem.W.Frag} {mg : Str → Option Value} {Wx : WX} {t : TE} {ma : EM} (h1 : SndE K mg t Wx ma) : SndI K mg (iSeq K t) Wx (imSeq ma) := by
  intro av σ e ρ H st Q s er h
  refine h1 av σ e ρ H st _ s er ((Post.bind h).imp ?_)
  rintro v H1 ⟨d, ρ1, st1, x1, s1, r1, q1⟩
  split at q1
  · rename_i xs e1
    by_cases hd : ∃ ys, d = .tup ys
    · obtain ⟨ys, rfl⟩ := hd
      obtain ⟨p, vs, rfl, h1, rs⟩ := r1.tuple
      exact ⟨p, rfl, .inr (.inl ⟨⟨vs, h1⟩, q1.ok s1 ⟨p, r1, .inl ⟨⟨ys, rfl⟩, rfl⟩⟩⟩)⟩
    · have nt : ∀ ys, d ≠ .tup ys := fun ys z => hd ⟨ys, z⟩
      obtain ⟨p, vs, rfl, h1, rs⟩ := r1.list s1 (seq_nottup nt e1)
      exact ⟨p, rfl, .inl ⟨⟨vs, h1⟩, q1.ok s1 ⟨p, r1, .inr ⟨nt, rfl⟩⟩⟩⟩
  · split at q1
    · rename_i p e2
      split at q1
      · rename_i hb
        obtain ⟨a, rfl, ha⟩ := r1.rng s1 e2
        exact ⟨a, rfl, .inr (.inr ⟨_, _, ha, hb, q1.ok s1 rfl⟩)⟩
      · exact q1.elim
    · exact q1.elim
theorem di_seq {X : Cx} {e tg : Expr} {ma : EM} (h : DE X e ma) : DI X tg e (imSeq ma) := fun Wx tk =>
  let ⟨_, p1, s1⟩ := h Wx tk
  ⟨_, pi_seq p1, snd_iseq s1⟩
def imR1 (m : EM) : IM := fun e st => (mL [m] e st).bind fun ds st1 => match ds with
  | [.int j] => if -(2 ^ 62) ≤ j ∧ j < 2 ^ 62 then .ok (.rng 0 j.toNat) st1 else .no
  | _ => .no
theorem di_range1 {tg : Expr} {p : Pos} (hg : Gl X "range") (hm : X.mg "range" = none) (h : DE X a ma) (st : isStar a = false) : DI X tg (.Call (.Name "range" p) [a] [] pos) (imR1 ma) := fun Wx tk => by
  obtain ⟨t, p1, s1⟩ := dl_cons h dl_nil st Wx tk
  refine ⟨_, pi_range1 hg hm p1 (star_cons st), ?_⟩
  intro av σ e ρ H st Q s er h
  refine s1 av σ e ρ H st _ s er ((Post.bind h).imp ?_)
  rintro vs H1 ⟨ds, ρ1, st1, x1, s1, r1, q1⟩
  split at q1
  · split at q1
    · rename_i z
      cases r1 with | cons r t =>
      cases t; cases r
      exact ⟨_, rfl, z.1, z.2, q1.ok s1 rfl⟩
    · exact q1.elim
  · exact q1.elim
def imR2 (m n : EM) : IM := fun e st => (mL [m, n] e st).bind fun ds st1 => match ds with
  | [.int i, .int j] => if -(2 ^ 62) ≤ i ∧ i < 2 ^ 62 ∧ -(2 ^ 62) ≤ j ∧ j < 2 ^ 62 then .ok (.rng i (j - i).toNat) st1 else .no
  | _ => .no
theorem di_range2 {tg : Expr} {p : Pos} (hg : Gl X "range") (hm : X.mg "range" = none) (h : DE X a ma) (h2 : DE X b mb) (st : isStar a = false) (st2 : isStar b = false) : DI X tg (.Call (.Name "range" p) [a, b] [] pos) (imR2 ma mb) := fun Wx tk => by
  obtain ⟨t, p1, s1⟩ := dl_cons h (dl_cons h2 dl_nil st2) st Wx tk
  refine ⟨_, pi_range2 hg hm p1 (by rw [star_cons st, star_cons st2]; rfl) (star_cons st2), ?_⟩
  intro av σ e ρ H st Q s er h
  refine s1 av σ e ρ H st _ s er ((Post.bind h).imp ?_)
  rintro vs H1 ⟨ds, ρ1, st1, x1, s1, r1, q1⟩
  split at q1
  · split at q1
    · rename_i z
      cases r1 with | cons r t =>
      cases t with | cons r2 t =>
      cases t; cases r; cases r2
      exact ⟨_, _, rfl, z, q1.ok s1 rfl⟩
    · exact q1.elim
  · exact q1.elim
def imEnum (m : EM) : IM := fun e st => (mL [m] e st).bind fun ds st1 => match ds with
  | [d] => match seqItems st1 d with
    | some _ => .ok (.enum d) st1
    | none => .no
  | _ => .no
theorem di_enum {ts : List Expr} {k : Nat} {tp p : Pos} (hg : Gl X "enumerate") (hm : X.mg "enumerate" = none) (h : DE X a ma) (st : isStar a = false) : DI X (.Tuple ts k tp) (.Call (.Name "enumerate" p) [a] [] pos) (imEnum ma) := fun Wx tk => by
  obtain ⟨t, p1, s1⟩ := dl_cons h dl_nil st Wx tk
  refine ⟨_, pi_enumT hg hm p1 (star_cons st), ?_⟩
  intro av σ e ρ H st Q s er h
  refine s1 av σ e ρ H st _ s er ((Post.bind h).imp ?_)
  rintro vs H1 ⟨ds, ρ1, st1, x1, s1, r1, q1⟩
  split at q1
  · split at q1
    · rename_i d _ xs e1
      cases r1 with | cons r t =>
      cases t
      by_cases c : ∃ xs, d = .tup xs
      · obtain ⟨ys, rfl⟩ := c
        obtain ⟨q, ws, rfl, h1, rs⟩ := r.tuple
        exact ⟨q, rfl, .inr ⟨⟨ws, h1⟩, q1.ok s1 ⟨q, r, .inl ⟨⟨ys, rfl⟩, rfl⟩⟩⟩⟩
      · have nt : ∀ xs, d ≠ .tup xs := fun xs e => c ⟨xs, e⟩
        obtain ⟨q, ws, rfl, h1, rs⟩ := r.list s1 (seq_nottup nt e1)
        exact ⟨q, rfl, .inl ⟨⟨ws, h1⟩, q1.ok s1 ⟨q, r, .inr ⟨nt, rfl⟩⟩⟩⟩
    · exact q1.elim
  · exact q1.elim
def imZip (m n : EM) : IM := fun e st => (mL [m, n] e st).bind fun ds st1 => match ds with
  | [.tup xs, .tup ys] => .ok (.zipT xs ys) st1
  | [c, d] => match items st1 c, items st1 d with
    | some _, some _ => .ok (.zip c d) st1
    | _, _ => .no
  | _ => .no
theorem di_zip {ts : List Expr} {k : Nat} {tp p : Pos} (hg : Gl X "zip") (hm : X.mg "zip" = none) (h : DE X a ma) (h2 : DE X b mb) (st : isStar a = false) (st2 : isStar b = false) : DI X (.Tuple ts k tp) (.Call (.Name "zip" p) [a, b] [] pos) (imZip ma mb) := fun Wx tk => by
  obtain ⟨t, p1, s1⟩ := dl_cons h (dl_cons h2 dl_nil st2) st Wx tk
  refine ⟨_, RZ.pi_zipA hg hm p1 (star_cons st) (star_any (by simp [st2])), ?_⟩
  intro av σ e ρ H st Q s er h
  refine s1 av σ e ρ H st _ s er ((Post.bind h).imp ?_)
  rintro vs H1 ⟨ds, ρ1, st1, x1, s1, r1, q1⟩
  split at q1
  · rename_i xs ys
    cases r1 with | cons r t =>
    cases t with | cons r2 t =>
    cases t
    obtain ⟨q, ws, rfl, h1, rs⟩ := r.tuple
    obtain ⟨q', ws', rfl, h1', rs'⟩ := r2.tuple
    exact ⟨q, q', ws, ws', rfl, .inr ⟨h1, h1', q1.ok s1 ⟨q, q', r, r2, rfl⟩⟩⟩
  · split at q1
    · rename_i xs ys e1 e2
      cases r1 with | cons r t =>
      cases t with | cons r2 t =>
      cases t
      obtain ⟨q, ws, rfl, h1, rs⟩ := r.list s1 e1
      obtain ⟨q', ws', rfl, h1', rs'⟩ := r2.list s1 e2
      exact ⟨q, q', ws, ws', rfl, .inl ⟨h1, h1', q1.ok s1 ⟨q, q', r, r2, rfl⟩⟩⟩
    · exact q1.elim
  · exact q1.elim

/-! ### loops -/
theorem ds_for {tg iter : Expr} {im : IM} {t : Tg} {body : List Stmt} (hp : PassesOwn (model X.prog X.w) X.A X.env X.xe) (hc : X.calm = true) (hi : DI X tg iter im) (hg : PG X tg (t.g X.K)) (hb : DSs X body m) (ns : isSet iter = false) : DS X (.For tg iter body [] pos) (sFor im t.m m) := fun Wx tk =>
  let ⟨_, p1, s1⟩ := hi Wx tk
  let ⟨_, p2, s2⟩ := hb Wx tk
  ⟨_, ps_for hp hc p1 hg p2 (fold_no ns), snd_for s1 (Tg.snd t) s2⟩
theorem ds_while {body : List Stmt} {fuel : Nat} (hp : PassesOwn (model X.prog X.w) X.A X.env X.xe) (hc : DT X c ta) (hb : DSs X body m) : DS X (.While c body [] pos) (whileL ta m fuel) := fun Wx tk =>
  let ⟨_, p1, s1⟩ := hc Wx tk
  let ⟨_, p2, s2⟩ := hb Wx tk
  ⟨_, ps_while hp p1 p2, snd_while s1 s2⟩

/-! ### comprehensions -/
/-- the block of a comprehension -/
abbrev bk (X : Cx) (scope : Scope) (s : Shared) (H : Hp) (C : Addr) (cl : List (Str × Addr)) (fp : List Addr) : Cx := X.blk s H scope (compEnvC scope cl C X.env) fp
/-- no test, or one -/
def DTs (X : Cx) (ifs : List Expr) (m : TM) : Prop := (ifs = [] ∧ m = fun _ st => .ok true st) ∨ ∃ c, ifs = [c] ∧ DT X c m
def tTs (K : PySem.W.Frag) (mg : Str → Option Value) (m : TM) : List Expr → TT
  | [] => tYes
  | _ => tOfT K mg WF m
theorem DTs.pts {ifs : List Expr} {m : TM} (h : DTs X ifs m) (tk : Takes X WF) : PTs X ifs (tTs X.K X.mg m ifs) := by
  rcases h with ⟨rfl, rfl⟩ | ⟨c, rfl, h⟩
  · exact pts_nil
  · exact pts_one (h.pt tk)
theorem DTs.snd {ifs : List Expr} {m : TM} (h : DTs X ifs m) : SndT X.K X.mg (tTs X.K X.mg m ifs) WF m := by
  rcases h with ⟨rfl, rfl⟩ | ⟨c, rfl, h⟩
  · intro av σ e ρ H st Q s er h
    exact h.ok s rfl
  · exact snd_tOfT
variable {elt tg iter : Expr} {ifs : List Expr} {scope : Scope} {own : List (Str × Nat)} {mt : Bool} {im : IM} {t : Tg} {tc : TM} {me : EM}
theorem de_lc (hc : X.calm = true) (hN : X.N.Nodup) (hi : DI X tg iter im) (ok : blkC X.N X.env.scope scope own = true) (hat : ∀ i ∈ t.at, i ∈ own.map (·.2))
    (hg : ∀ s H C cl fp, PG (bk X scope s H C cl fp) tg (t.g X.K)) (ht : ∀ s H C cl fp, DTs (bk X scope s H C cl fp) ifs tc) (he : ∀ s H C cl fp, DE (bk X scope s H C cl fp) elt me) (ns : isSet iter = false) (s0 : Shared) :
    DE X (.ListComp elt [⟨tg, iter, ifs, 0⟩] scope pos) (mLc mt im (own.map (·.2)) t.m tc me) := fun Wx tk => by
  obtain ⟨w, p1, s1⟩ := hi Wx tk
  exact ⟨_, pe_lc hc hN p1 (blkOk_by ok) hg (fun s H C cl fp => (ht s H C cl fp).pts takes0) (fun s H C cl fp => (he s H C cl fp).pe takes0) (fold_no ns),
    snd_lc s1 (Tg.snd t) (Tg.keeps t hat) (Tg.mono t) (DTs.snd (X := bk X scope s0 X.H_0 0 [] []) (ht s0 X.H_0 0 [] [])) snd_tOf⟩
theorem ds_setLc {y : Str} {i : Nat} {py spos : Pos} (hc : X.calm = true) (hN : X.N.Nodup) (hy : X.N[i]? = some y) (hyl : X.env.scope.names.lookup y = some .local) (hsw : swapsWith (.ListComp elt [⟨tg, iter, ifs, 0⟩] scope pos) (some (.Name y py)) spos.line X.env = pure true)
    (hi : DI X tg iter im) (ok : blkC X.N X.env.scope scope own = true) (hat : ∀ i ∈ t.at, i ∈ own.map (·.2))
    (hg : ∀ s H C cl fp, PG (bk X scope s H C cl fp) tg (t.g X.K)) (ht : ∀ s H C cl fp, DTs (bk X scope s H C cl fp) ifs tc) (he : ∀ s H C cl fp, DE (bk X scope s H C cl fp) elt me) (ns : isSet iter = false) (s0 : Shared) :
    DS X (.Assign [.Name y py] (.ListComp elt [⟨tg, iter, ifs, 0⟩] scope pos) spos) (sAsg (mLc mt im (own.map (·.2)) t.m tc me) (gmName i)) := fun Wx tk => by
  obtain ⟨w, p1, s1⟩ := hi Wx tk
  exact ⟨_, L2.ps_setLc hc hN hy hyl hsw p1 (blkOk_by ok) hg (fun s H C cl fp => (ht s H C cl fp).pts takes0) (fun s H C cl fp => (he s H C cl fp).pe takes0) (fold_no ns),
    snd_asg (snd_lc s1 (Tg.snd t) (Tg.keeps t hat) (Tg.mono t) (DTs.snd (X := bk X scope s0 X.H_0 0 [] []) (ht s0 X.H_0 0 [] [])) snd_tOf) snd_gname⟩
end DX

/-! DxSu: sorted of tuples whose first unlike places decide. -/
set_option linter.all false
set_option maxRecDepth 100000
set_option Elab.async false
namespace DX
open PySem PySem.Spec PyProof.Rows L2 PySem.W PySem.SeqAt
/-- alike up to the first places that differ -/
def alikeU : List PyData → List PyData → Bool
  | x :: xs, y :: ys => PySem.W.alike x y && (!PyData.eqv x y || alikeU xs ys)
  | _, _ => true
section
variable {prog : Program} {w : World} {A : Around} {s : Shared}
theorem katLexU {b fin : Bool} {Q : Bool → Shared → Prop} : ∀ (xs ys : List PyData) (i : Nat) (vs ws : List Value) (as bs : List Addr), ReadsAll s.heap vs xs as → ReadsAll s.heap ws ys bs → alikeU xs ys = true →
    A.units + min (PyData.depthAll xs) (PyData.depthAll ys) < cLine → (b = true → i = 0 → ∀ x r t, xs = x :: r → x ≠ .tuple t) → fin = decide (xs.length < ys.length) → Q (PyProof.Rows.lexLt itemOrd (keyToksAll xs) (keyToksAll ys)) s → PySem.W.KatLex prog w A b fin Q (vs.zip ws) i s
  | [], [], i, _, _, _, _, ra, rb, _, _, _, hf, hq => katLex_alike [] [] i _ _ _ _ ra rb rfl (by assumption) (by assumption) hf hq
  | [], y :: ys, i, _, _, _, _, ra, rb, _, _, _, hf, hq => katLex_alike [] (y :: ys) i _ _ _ _ ra rb rfl (by assumption) (by assumption) hf hq
  | x :: xs, [], i, _, _, _, _, ra, rb, _, _, _, hf, hq => katLex_alike (x :: xs) [] i _ _ _ _ ra rb rfl (by assumption) (by assumption) hf hq
  | x :: xs, y :: ys, i, _, _, _, _, ra, rb, h, hu, hb, hf, hq => by
    unfold alikeU at h
    rw [Bool.and_eq_true] at h
    obtain ⟨h1, h2⟩ := h
    cases ra with
    | cons r rs =>
    cases rb with
    | cons r' rs' =>
      rw [List.zip_cons_cons]
      refine kat_cons (eqAt_alike x y A s _ _ _ _ r r' h1 (room_head hu) prog w _ _ ?_)
      cases hx : PyData.eqv x y with
      | true =>
        rw [hx] at h2
        rw [dataLt_all_yes h1 hx] at hq
        exact kat_yes (katLexU xs ys (i + 1) _ _ _ _ rs rs' (by simpa using h2) (room_tail hu) (fun _ z => absurd z (Nat.succ_ne_zero i)) (by simpa using hf) hq)
      | false =>
        rw [dataLt_all_no h1 hx] at hq
        refine kat_no (oneLt_alike (fun z t => ?_) r r' h1 (ne_none_of h1 hx) (room_head hu) hq)
        rw [Bool.and_eq_true] at z
        exact hb z.1 (by simpa using z.2) x xs t rfl
/-- what is read off a value is one of the rows alone -/
def UniqR (h : Heap) (ds : List PyData) : Prop := ∀ d ∈ ds, ∀ d' ∈ ds, ∀ v as as', Reads h v d as → Reads h v d' as' → d = d'
theorem uniq_of {h : Heap} {ds : List PyData} (hc : ∀ d ∈ ds, d.canLay0 = true) : UniqR h ds := fun d hd d' _ v as as' r r' => SeqAt.Reads.unique d d' v as as' (hc d hd) r r'
theorem kindU {h : Heap} {ds : List PyData} (un : UniqR h ds) {v : Value} {d : PyData} {as : List Addr} (hd : d ∈ ds) (r : Reads h v d as) : (dataKind h ds).keyOf v = some (keyToks d) := by
  have q : ∃ d, d ∈ ds ∧ ∃ as, Reads h v d as := ⟨d, hd, as, r⟩
  have e : (dataKind h ds).keyOf v = some (keyToks q.choose) := by
    show (open Classical in if q : ∃ d, d ∈ ds ∧ ∃ as, Reads h v d as then some (keyToks q.choose) else none) = _
    rw [dif_pos q]
  obtain ⟨h1, as', h2⟩ := q.choose_spec
  rw [e, un _ h1 d hd v as' as h2 r]
def AllU (ds : List PyData) : Prop := ∀ d ∈ ds, ∀ d' ∈ ds, ∃ xs ys, d = .tuple xs ∧ d' = .tuple ys ∧ alikeU xs ys = true
theorem sortsU {vs : List Value} {ds : List PyData} (e : EachIs (fun v d => ∃ as, Reads s.heap v d as) vs ds) (un : UniqR s.heap ds) (hal : AllU ds) (ht : ∀ d, d ∈ ds → ∃ x r, d = .tuple (x :: r)) (hu : ∀ d, d ∈ ds → A.units + d.depth < cLine) : SortsAt prog w A s (dataKind s.heap ds) vs := by
  have room : ∀ {d d' : PyData}, d ∈ ds → A.units + min d.depth d'.depth < cLine := fun {d d'} hd => Nat.lt_of_le_of_lt (Nat.add_le_add_left (Nat.min_le_left _ _) _) (hu d hd)
  refine ⟨fun v hv => ?_, ?_⟩
  · obtain ⟨d, hd, as, r⟩ := e.left v hv
    exact ⟨_, kindU un hd r⟩
  cases ds with
  | nil => exact (SortsAt.data (prog := prog) (w := w) (A := A) e (fun d hd => absurd hd (by simp)) (.inr fun d hd => absurd hd (by simp)) (fun d hd => absurd hd (by simp))).kind
  | cons d₀ ds₀ =>
    obtain ⟨x₀, r₀, e₀⟩ := ht d₀ List.mem_cons_self
    have hfirst : ∀ x r, PyData.tuple (x :: r) ∈ d₀ :: ds₀ → PySem.W.alike x x₀ = true := by
      intro x r hm
      obtain ⟨xs, ys, q1, q2, q⟩ := hal _ hm d₀ List.mem_cons_self
      rw [e₀] at q2
      cases q1
      cases q2
      unfold alikeU at q
      exact (Bool.and_eq_true_iff.mp q).1
    refine ⟨tuples' (dataType x₀ != Value.type "tuple"), ?_, fun h2 E Q hq => ?_⟩
    · intro E x y a b Q ha hb hq
      obtain ⟨d, as, hd, ra, rfl⟩ := dataKind_inv ha
      obtain ⟨d', as', hd', rb, rfl⟩ := dataKind_inv hb
      obtain ⟨xs1, ys1, q1, q2, hdd⟩ := hal d hd d' hd'
      have hroom := room (d' := d') hd
      obtain ⟨x1, r1, rfl⟩ := ht d hd
      obtain ⟨x2, r2, rfl⟩ := ht d' hd'
      cases q1
      cases q2
      have hq' : Q (dataLt (.tuple (x1 :: r1)) (.tuple (x2 :: r2))) s := hq
      rw [dataLt_tuple] at hq'
      cases ra with
      | @tuple l o xs n _ _ h1 h2 h3 h4 =>
      cases rb with
      | @tuple l' o' xs' n' _ _ k1 k2 k3 k4 =>
        have n1 : xs.size = (x1 :: r1).length := by simpa using SeqAt.ReadsAll.length _ _ _ h4
        have n2 : xs'.size = (x2 :: r2).length := by simpa using SeqAt.ReadsAll.length _ _ _ k4
        refine kat_lt h1 h3 k1 k3 (katLexU (x1 :: r1) (x2 :: r2) 0 _ _ _ _ h4 k4 hdd (by have q := SeqAt.room_in hroom; omega) (fun hb _ x r t ex => ?_) (by rw [n1, n2]) hq')
        obtain ⟨rfl, rfl⟩ := List.cons.inj ex
        have q := dataType_alike (hfirst _ _ hd)
        rw [← q] at hb
        exact dataType_tuple hb t
    · obtain ⟨fs, t1, t2, t3⟩ := each_katTups e ht
      refine kat_kind (T := dataType x₀) t1 (by omega) (fun f hf => ?_) (beq_self_eq_true _) hq
      obtain ⟨x, r, as, m1, m2⟩ := t3 f hf
      rw [← dataType_alike (hfirst x r m1)]
      exact looks_reads m2
theorem sortValsU {β : Type} {h' : Heap} {R : Value → β → Prop} {enc : β → PyData} {vs : List Value} {bs : List β} (e : EachIs R vs bs) (er : EachIs (fun v b => ∃ as, Reads h' v (enc b) as) vs bs) (un : UniqR h' (bs.map enc)) :
    EachIs R (sortVals (dataKind h' (bs.map enc)) false vs vs) (bs.mergeSort (dataLe false enc)) :=
  sortVals_each (κ := dataKind h' (bs.map enc)) (fun b => keyToks (enc b)) e (each_of_map enc ((each_mem (each_map (R := fun v d => ∃ as, Reads h' v d as) enc er)).mono fun _ _ ⟨⟨_, r⟩, hd⟩ => kindU un hd r))
theorem sorted_dataU {β : Type} {E : Value → Shared → Prop} {R : Value → β → Prop} {enc : β → PyData} {vs : List Value} {bs : List β} {l : Addr} {Q : Value → Shared → Prop} (hl : s.heap.IsList l vs.toArray) (e : EachIs R vs bs) (er : EachIs (fun v b => ∃ as, Reads s.heap v (enc b) as) vs bs) (hc : ∀ b ∈ bs, (enc b).canLay0 = true) (hal : AllU (bs.map enc)) (ht : ∀ d, d ∈ bs.map enc → ∃ x r, d = .tuple (x :: r)) (hL : bs.length ≤ sizeLine)
    (hu : ∀ b, b ∈ bs → A.units + 2 + (enc b).depth < cLine) (h : ∀ out, out.length = bs.length → EachIs R out (bs.mergeSort (dataLe false enc)) → Q (.ref (s.heap.objs.size + 1)) { s with heap := PyProof.Rows.sortedAll s.heap vs (List.toArray out) }) :
    wpAny (model prog w) A (call (.builtin "sorted") [.ref l]) Q E s := by
  have er' : EachIs (fun v b => ∃ as, Reads (sortingHeap (copyHeap s.heap vs) (s.heap.objs.size + 1) vs) v (enc b) as) vs bs := er.mono fun _ _ ⟨as, r⟩ => ⟨as, PyProof.Rows.Reads.keeps (fun _ _ => sorting_copy_old) r⟩
  have un : UniqR (sortingHeap (copyHeap s.heap vs) (s.heap.objs.size + 1) vs) (bs.map enc) := uniq_of fun d hd => by
    obtain ⟨b, hb, rfl⟩ := List.mem_map.mp hd
    exact hc b hb
  exact sorted_vals hl (sortsU (s := { s with heap := sortingHeap (copyHeap s.heap vs) (s.heap.objs.size + 1) vs }) (each_map (R := fun v d => ∃ as, Reads (sortingHeap (copyHeap s.heap vs) (s.heap.objs.size + 1) vs) v d as) enc er') un hal ht (bound_map hu)) (by rw [e.length]; exact hL)
    (h _ (by rw [sortVals_length false rfl]; exact e.length) (sortValsU e er' un))
end
end DX

/-! DxSo: sorted of a list of data. -/
set_option linter.all false
set_option maxRecDepth 100000
set_option Elab.async false
namespace DX
open PySem PySem.Spec PyProof.Rows L2
abbrev leV (b c : V × PyData) : Bool := PySem.W.dataLe false (fun z : V × PyData => z.2) b c
def rSortD (K : PySem.W.Frag) : List V → Hp → VK → Prop := fun vs H Q => ∃ (a : Addr) (bs : List (V × PyData)), vs = [V.ref a] ∧ SqL K H a (bs.map (·.1)) ∧ (∀ b ∈ bs, De K H b.1 b.2) ∧ ((PySem.W.AllAlike (bs.map (·.2)) ∧ PySem.W.Sortable (bs.map (·.2))) ∨ ((∀ b ∈ bs, b.2.canLay0 = true) ∧ AllU (bs.map (·.2)) ∧ ∀ d, d ∈ bs.map (·.2) → ∃ x r, d = .tuple (x :: r))) ∧ (∀ b ∈ bs, b.2.depth ≤ 60) ∧
  ∀ p, H p = none → Q (.ref p) (upd H p (.lst ((bs.mergeSort leV).map (·.1))))
theorem each_vals : ∀ {bs : List (V × PyData)} {us : List Value}, Vals (bs.map (·.1)) us → PySem.W.EachIs (fun u (b : V × PyData) => RelV b.1 u) us bs
  | [], us, h => by cases h; exact .nil
  | b :: bs, us, h => by
    rw [List.map_cons] at h
    cases h with | cons h1 h2 => exact .cons h1 (each_vals h2)
theorem vals_each : ∀ {bs : List (V × PyData)} {us : List Value}, PySem.W.EachIs (fun u (b : V × PyData) => RelV b.1 u) us bs → Vals (bs.map (·.1)) us
  | [], us, h => by cases h; exact .nil
  | b :: bs, us, h => by
    cases h with | cons h1 h2 => exact .cons h1 (vals_each h2)
section
variable {X : Cx} {pins : List (Addr × Obj)} {σ : L2.St} {H : Hp} {s : Shared}
theorem each_reads (I : Inv X pins σ H s) : ∀ {bs : List (V × PyData)} {us : List Value}, (∀ b ∈ bs, De X.K H b.1 b.2) → Vals (bs.map (·.1)) us → PySem.W.EachIs (fun u (b : V × PyData) => ∃ as, Reads s.heap u b.2 as) us bs
  | [], us, _, h => by cases h; exact .nil
  | b :: bs, us, hd, h => by
    rw [List.map_cons] at h
    cases h with | cons h1 h2 =>
    obtain ⟨as, r, _⟩ := De.reads I b.2 b.1 _ (hd b List.mem_cons_self) h1
    exact .cons ⟨as, r⟩ (each_reads I (fun c hc => hd c (List.mem_cons_of_mem _ hc)) h2)
end
theorem cr_sortD {X : Cx} (hu : X.A.units + 70 < cLine) : CallR X (.builtin "sorted") (rSortD X.K) := by
  intro pins s σ H vs us Q I r h
  obtain ⟨a, bs, rfl, hs, hd, hk, hdp, q⟩ := h
  obtain ⟨its, rv, hl, hz⟩ := I.list hs
  rw [Vals.ref1 r]
  have hlen : bs.length ≤ sizeLine := by rw [List.length_map] at hz; exact hz
  have fin : ∀ out : List Value, out.length = bs.length → PySem.W.EachIs (fun u (b : V × PyData) => RelV b.1 u) out (bs.mergeSort (PySem.W.dataLe false fun b : V × PyData => b.2)) → EP X pins σ Q (.ref (s.heap.objs.size + 1)) { s with heap := PyProof.Rows.sortedAll s.heap its (List.toArray out) } := fun out ho eo => by
    obtain ⟨ep, he'⟩ := PyProof.Rows.sortedAll_at s.heap its out.toArray
    have rv' : Vals ((bs.mergeSort leV).map (·.1)) out := vals_each eo
    exact ⟨.ref _, upd H (s.heap.objs.size + 1) (.lst ((bs.mergeSort leV).map (·.1))), I.laid (t' := s.toks) (fun _ _ => PyProof.Rows.sortedAll_old) (Nat.le_succ _) ⟨by rw [List.length_map, List.length_mergeSort]; exact hlen, out, ep, rv', he'⟩, rfl, q _ (I.hok.fresh (Nat.le_succ _))⟩
  rcases hk with ⟨hal, hk⟩ | ⟨hc, hal, ht⟩
  · exact PySem.W.sorted_data (enc := fun b : V × PyData => b.2) (R := fun u b => RelV b.1 u) hl.isList (each_vals rv) (each_reads I hd rv) hal hk hlen (fun b hb => by have := hdp b hb; omega) fin
  · exact sorted_dataU (enc := fun b : V × PyData => b.2) (R := fun u b => RelV b.1 u) hl.isList (each_vals rv) (each_reads I hd rv) hc hal ht hlen (fun b hb => by have := hdp b hb; omega) fin
/-! values -/
def pdE (d : D) : PyData := match pd d with
  | some p => p
  | none => .none
abbrev leD (a b : D) : Bool := PySem.W.dataLe false pdE a b
def alikeAllB (ps : List PyData) : Bool := ps.all fun p => ps.all fun q => PySem.W.alike p q
def sortableB (ps : List PyData) : Bool := (ps.all fun p => match p with | .tuple (_ :: _) => true | _ => false) || ps.all fun p => match p with | .none => false | .tuple _ => false | _ => true
def ltU (p q : PyData) : Bool := match p, q with
  | .tuple xs, .tuple ys => alikeU xs ys
  | _, _ => false
/-- tuples whose first unlike places decide -/
def sortUB (ps : List PyData) : Bool := (ps.all fun p => p.canLay0 && match p with | .tuple (_ :: _) => true | _ => false) && ps.all fun p => ps.all fun q => ltU p q
def sortD : List D → Sto → R D
  | [d], st => match items st d with
    | some xs => match pds xs with
      | some ps => if (alikeAllB ps && sortableB ps || sortUB ps) && ps.all (fun p => decide (p.depth ≤ 60)) then .ok (.lst (xs.mergeSort leD)) st else .no
      | none => .no
    | none => .no
  | _, _ => .no
theorem alikeAll_ok {ps : List PyData} (h : alikeAllB ps = true) : PySem.W.AllAlike ps := fun p hp q hq => List.all_eq_true.mp (List.all_eq_true.mp h p hp) q hq
theorem sortable_ok {ps : List PyData} (h : sortableB ps = true) : PySem.W.Sortable ps := by
  unfold sortableB at h
  rw [Bool.or_eq_true] at h
  rcases h with h | h
  · refine .inl fun d hd => ?_
    have z := List.all_eq_true.mp h d hd
    cases d with
    | tuple xs => cases xs with
      | nil => cases z
      | cons x r => exact ⟨x, r, rfl⟩
    | _ => cases z
  · refine .inr fun d hd => ?_
    have z := List.all_eq_true.mp h d hd
    cases d with
    | none => cases z
    | tuple xs => cases z
    | _ => exact ⟨(nofun), (nofun)⟩
theorem sortU_ok {ps : List PyData} (h : sortUB ps = true) : (∀ p ∈ ps, p.canLay0 = true) ∧ AllU ps ∧ ∀ d, d ∈ ps → ∃ x r, d = .tuple (x :: r) := by
  unfold sortUB at h
  rw [Bool.and_eq_true] at h
  have one : ∀ p ∈ ps, p.canLay0 = true ∧ ∃ x r, p = .tuple (x :: r) := fun p hp => by
    have z := List.all_eq_true.mp h.1 p hp
    rw [Bool.and_eq_true] at z
    refine ⟨z.1, ?_⟩
    cases p with
    | tuple xs => cases xs with
      | nil => exact absurd z.2 (by simp)
      | cons x r => exact ⟨x, r, rfl⟩
    | _ => exact absurd z.2 (by simp)
  refine ⟨fun p hp => (one p hp).1, fun d hd d' hd' => ?_, fun d hd => (one d hd).2⟩
  obtain ⟨x, r, rfl⟩ := (one d hd).2
  obtain ⟨y, t, rfl⟩ := (one d' hd').2
  exact ⟨_, _, rfl, rfl, List.all_eq_true.mp (List.all_eq_true.mp h.2 _ hd) _ hd'⟩
/-- the three go together -/
theorem triples {W : Wd} {ρ : List Addr} {H : Hp} : ∀ {xs : List D} {vs : List V} {ps : List PyData}, Rels W ρ H xs vs → pds xs = some ps → ∃ ts : List (D × V × PyData), ts.map (·.1) = xs ∧ ts.map (·.2.1) = vs ∧ ts.map (·.2.2) = ps ∧ ∀ t ∈ ts, Rel W ρ H t.1 t.2.1 ∧ pd t.1 = some t.2.2
  | [], _, ps, r, h => by cases r; cases h; exact ⟨[], rfl, rfl, rfl, fun _ h => nomatch h⟩
  | x :: xs, _, ps, r, h => by
    cases r with | cons r1 r2 =>
    unfold pds at h
    split at h
    · rename_i p qs h1 h2
      cases h
      obtain ⟨ts, e1, e2, e3, e4⟩ := triples r2 h2
      refine ⟨(x, _, p) :: ts, by rw [List.map_cons, e1], by rw [List.map_cons, e2], by rw [List.map_cons, e3], fun t ht => ?_⟩
      rcases List.mem_cons.mp ht with rfl | ht
      · exact ⟨r1, h1⟩
      · exact e4 t ht
    · cases h
theorem rels_of {W : Wd} {ρ : List Addr} {H : Hp} : ∀ (ts : List (D × V × PyData)), (∀ t ∈ ts, Rel W ρ H t.1 t.2.1) → Rels W ρ H (ts.map (·.1)) (ts.map (·.2.1))
  | [], _ => .nil
  | t :: ts, h => .cons (h t List.mem_cons_self) (rels_of ts fun u hu => h u (List.mem_cons_of_mem t hu))
theorem snd_sort {K : PySem.W.Frag} {mg : Str → Option Value} : SndC K mg (rSortD K) sortD := by
  intro av E ρ H st Q ds vs s rs h
  unfold sortD at h
  split at h
  · rename_i d
    split at h
    · rename_i xs e1
      split at h
      · rename_i ps e2
        split at h
        · rename_i c
          rw [Bool.and_eq_true, Bool.or_eq_true, Bool.and_eq_true] at c
          cases rs with | cons r t =>
          cases t
          obtain ⟨p, ws, rfl, h1, rr⟩ := r.list s e1
          obtain ⟨ts, rfl, rfl, rfl, q⟩ := triples rr e2
          refine ⟨p, ts.map (·.2), rfl, by rw [List.map_map]; exact h1, fun b hb => ?_, ?_, fun b hb => ?_, ?_⟩
          · obtain ⟨t, ht, rfl⟩ := List.mem_map.mp hb
            exact (q t ht).1.de (q t ht).2
          · rcases c.1 with c1 | c1
            · exact .inl ⟨by rw [List.map_map]; exact alikeAll_ok c1.1, by rw [List.map_map]; exact sortable_ok c1.2⟩
            · obtain ⟨u1, u2, u3⟩ := sortU_ok c1
              refine .inr ⟨fun b hb => ?_, by rw [List.map_map]; exact u2, by rw [List.map_map]; exact u3⟩
              obtain ⟨t, ht, rfl⟩ := List.mem_map.mp hb
              exact u1 _ (List.mem_map.mpr ⟨t, ht, rfl⟩)
          · obtain ⟨t, ht, rfl⟩ := List.mem_map.mp hb
            have z := List.all_eq_true.mp c.2 t.2.2 (List.mem_map.mpr ⟨t, ht, rfl⟩)
            simpa using z
          · have m1 : (ts.mergeSort (fun a b => leV a.2 b.2)).map (·.2) = (ts.map (·.2)).mergeSort leV := List.map_mergeSort (fun _ _ _ _ => rfl)
            have m2 : (ts.mergeSort (fun a b => leV a.2 b.2)).map (·.1) = (ts.map (·.1)).mergeSort leD := by
              refine List.map_mergeSort fun a ha b hb => ?_
              have ea : pdE a.1 = a.2.2 := by unfold pdE; rw [(q a ha).2]
              have eb : pdE b.1 = b.2.2 := by unfold pdE; rw [(q b hb).2]
              show PySem.W.dataLe false (fun z : V × PyData => z.2) a.2 b.2 = PySem.W.dataLe false pdE a.1 b.1
              unfold PySem.W.dataLe PySem.W.sortLe
              simp only [ea, eb]
            rw [← m1, List.map_map]
            have rel : Rels ⟨K, mg, av⟩ ρ H ((ts.map (·.1)).mergeSort leD) ((ts.mergeSort (fun a b => leV a.2 b.2)).map (·.2.1)) := by
              rw [← m2]
              exact rels_of _ fun t ht => (q t ((List.mergeSort_perm ts _).mem_iff.mp ht)).1
            have h' : Post ⟨K, mg, av⟩ (Rel ⟨K, mg, av⟩) E ρ H Q (newL false ((ts.map (·.1)).mergeSort leD) st) := h
            exact post_newL s rel h'
        · exact h.elim
      · exact h.elim
    · exact h.elim
  · exact h.elim
end DX

/-! DxKd: the module's own dicts of words. -/
set_option linter.all false
set_option maxRecDepth 100000
set_option Elab.async false
namespace DX
open PySem PySem.Spec PyProof.Rows L2

def kdGet (kvs : List (Str × D)) (k : Str) : Option D := (kvs.find? fun p => decide (p.1 = k)).map (·.2)
/-- the dict that the module's top has named x: its entries' words and what they hold -/
def KD (P : Program) (w : World) (K : PySem.W.Frag) (mg : Str → Option Value) (x : Str) (kvs : List (Str × D)) : Prop :=
  ∃ (a : Addr) (o : Obj) (es : Array DictEntry) (ep : Nat) (vs : List (Key × Value)), mg x = some (.ref a) ∧ (a == sysModules) = false ∧ K.lookup a = some o ∧ o.ExactDict ∧ o.data = .dict es ep ∧
    KeysOf (mixKind P w) es ∧ Pairs (mixKind P w) es.toList vs ∧ (vs.map (·.1)).Nodup ∧
    Paired (fun (p : Str × D) (q : Key × Value) => q.1 = Sum.inr p.1 ∧ ∃ v, RelV v q.2 ∧ ∀ av ρ H, Rel ⟨K, mg, av⟩ ρ H p.2 v) kvs vs
theorem kd_some {R : D → Value → Prop} {k : Str} : ∀ {kvs : List (Str × D)} {vs : List (Key × Value)}, Paired (fun p q => q.1 = Sum.inr p.1 ∧ R p.2 q.2) kvs vs → ∀ {d : D}, kdGet kvs k = some d → ∃ u, valueAt vs (Sum.inr k) = some u ∧ R d u
  | _, _, .nil, d, e => by simp [kdGet] at e
  | _, _, .cons (a := p) (b := q) (l₁ := l) (l₂ := l') h t, d, e => by
    by_cases z : p.1 = k
    · have e' : some p.2 = some d := by simpa [kdGet, List.find?_cons, z] using e
      cases e'
      exact ⟨q.2, by simp [valueAt, List.find?_cons, h.1, z], h.2⟩
    · have e' : kdGet l k = some d := by simpa [kdGet, List.find?_cons, z] using e
      obtain ⟨u, h1, h2⟩ := kd_some t e'
      have z' : ¬ (q.1 = Sum.inr k) := by rw [h.1]; exact fun y => z (Sum.inr.inj y)
      exact ⟨u, by simpa [valueAt, List.find?_cons, z'] using h1, h2⟩
theorem kd_is {R : D → Value → Prop} {k : Str} : ∀ {kvs : List (Str × D)} {vs : List (Key × Value)}, Paired (fun p q => q.1 = Sum.inr p.1 ∧ R p.2 q.2) kvs vs → (valueAt vs (Sum.inr k)).isSome = (kdGet kvs k).isSome
  | _, _, .nil => rfl
  | _, _, .cons (a := p) (b := q) (l₁ := l) (l₂ := l') h t => by
    by_cases z : p.1 = k
    · simp [valueAt, kdGet, List.find?_cons, h.1, z]
    · have z' : ¬ (q.1 = Sum.inr k) := by rw [h.1]; exact fun y => z (Sum.inr.inj y)
      have i := kd_is (k := k) t
      simpa [valueAt, kdGet, List.find?_cons, z, z'] using i
/-- x[word] -/
def mKdGet (kvs : List (Str × D)) (m : EM) : EM := fun e st => (m e st).bind fun d st1 => match d with
  | .str k => match kdGet kvs k with
    | some y => .ok y st1
    | none => .no
  | _ => .no
/-- word in x -/
def mKdIn (b : Bool) (kvs : List (Str × D)) (m : EM) : EM := fun e st => (m e st).bind fun d st1 => match d with
  | .str k => .ok (.bl ((kdGet kvs k).isSome == b)) st1
  | _ => .no
section
variable {X : Cx} {x : Str} {kvs : List (Str × D)} {i : Expr} {m : EM} {p pos : Pos}
def tKd (vs : List (Key × Value)) (ti : TE) : TE := fun σ H Q => ti σ H fun y H1 => ∃ k u v, y = .str k ∧ valueAt vs (Sum.inr k) = some u ∧ RelV v u ∧ Q v H1
def tKdIn (b : Bool) (vs : List (Key × Value)) (ti : TE) : TE := fun σ H Q => ti σ H fun y H1 => ∃ k, y = .str k ∧ Q (.bl ((valueAt vs (Sum.inr k)).isSome == b)) H1
theorem kd_dictOf {s : Shared} {K : PySem.W.Frag} {P : Program} {w : World} {a : Addr} {o : Obj} {es : Array DictEntry} {ep : Nat} {vs : List (Key × Value)} (kin : K.In s.heap) (l : K.lookup a = some o) (c : o.ExactDict) (d : o.data = .dict es ep)
    (ks : KeysOf (mixKind P w) es) (ps : Pairs (mixKind P w) es.toList vs) (nd : (vs.map (·.1)).Nodup) : s.heap.DictOf (mixKind P w) a vs := ⟨o, es, ep, kin a o l, c, d, ks, ps, nd⟩
theorem de_kdget (hg : Gl X x) (h1 : (x == ("__debug__" : Str)) = false) (kd : KD X.prog X.w X.K X.mg x kvs) (hi : DE X i m) (h : isSlice i = false) : DE X (.Subscript (.Name x p) i pos) (mKdGet kvs m) := fun Wx tk => by
  obtain ⟨ti, pi, si⟩ := hi Wx tk
  obtain ⟨a, o, es, ep, vs, hm, hd, l, c, d, ks, ps, nd, pr⟩ := kd
  refine ⟨tKd vs ti, ⟨fun pins s σ H Q I h2 => ?_⟩, ?_⟩
  · refine subD_of PySem.F.slot_dict_getitem.lookup (plain_ix h) (ld_glob I hg hm ?_ h1)
    refine thn (pi.run pins s σ H _ I h2) fun iv s2 ⟨y, H2, I2, ry, k, u, v, ey, hv, rv, q2⟩ => ?_
    subst ey
    have dd := kd_dictOf I2.kIn l c d ks ps nd
    exact ⟨dd.typeIs, wpAny_getItem_of (kV_is (k := Sum.inr k) ry) dd.mapOf hv ⟨v, H2, I2.tok _, rv, q2⟩⟩
  · intro av σ e ρ H st Q s er h2
    refine si av σ e ρ H st _ s er ((Post.bind h2).imp ?_)
    rintro v H1 ⟨dd, ρ1, st1, x1, s1, r1, q1⟩
    split at q1
    · rename_i k
      cases r1
      split at q1
      · rename_i y hy
        obtain ⟨u, hu, v, rv, rd⟩ := kd_some (R := fun d u => ∃ v, RelV v u ∧ ∀ av ρ H, Rel ⟨X.K, X.mg, av⟩ ρ H d v) pr hy
        exact ⟨k, u, v, rfl, hu, rv, q1 v ρ1 H1 .refl s1 (rd av ρ1 H1)⟩
      · exact q1.elim
    · exact q1.elim
theorem pc_kdin {ti : TE} (hg : Gl X x) (h1 : (x == ("__debug__" : Str)) = false) {a : Addr} {o : Obj} {es : Array DictEntry} {ep : Nat} {vs : List (Key × Value)} (hm : X.mg x = some (.ref a)) (hd : (a == sysModules) = false) (l : X.K.lookup a = some o) (c : o.ExactDict) (d : o.data = .dict es ep)
    (ks : KeysOf (mixKind X.prog X.w) es) (ps : Pairs (mixKind X.prog X.w) es.toList vs) (nd : (vs.map (·.1)).Nodup) (hi : PE X i ti) : PC X .In i (.Name x p) (tKdIn true vs ti) := by
  refine ⟨fun pins s σ H Q I h => ?_⟩
  refine thn (hi.run pins s σ H _ I h) fun iv s1 ⟨y, H1, I1, ry, k, ey, q1⟩ => ld_glob I1 hg hm ?_ h1
  subst ey
  refine wpAny_in_of (kV_is (k := Sum.inr k) ry) hd (kd_dictOf I1.kIn l c d ks ps nd).mapOf ⟨.bl _, H1, I1.tok _, rfl, ?_⟩
  simpa using q1
theorem pc_kdnotin {ti : TE} (hg : Gl X x) (h1 : (x == ("__debug__" : Str)) = false) {a : Addr} {o : Obj} {es : Array DictEntry} {ep : Nat} {vs : List (Key × Value)} (hm : X.mg x = some (.ref a)) (hd : (a == sysModules) = false) (l : X.K.lookup a = some o) (c : o.ExactDict) (d : o.data = .dict es ep)
    (ks : KeysOf (mixKind X.prog X.w) es) (ps : Pairs (mixKind X.prog X.w) es.toList vs) (nd : (vs.map (·.1)).Nodup) (hi : PE X i ti) : PC X .NotIn i (.Name x p) (tKdIn false vs ti) := by
  refine ⟨fun pins s σ H Q I h => ?_⟩
  refine thn (hi.run pins s σ H _ I h) fun iv s1 ⟨y, H1, I1, ry, k, ey, q1⟩ => ld_glob I1 hg hm ?_ h1
  subst ey
  refine wpAny_notIn_of (kV_is (k := Sum.inr k) ry) hd (kd_dictOf I1.kIn l c d ks ps nd).mapOf ⟨.bl _, H1, I1.tok _, rfl, ?_⟩
  simpa using q1
theorem snd_kdin {b : Bool} {ti : TE} {Wx : WX} {vs : List (Key × Value)} (pr : Paired (fun (p : Str × D) (q : Key × Value) => q.1 = Sum.inr p.1 ∧ ∃ v, RelV v q.2 ∧ ∀ av ρ H, Rel ⟨X.K, X.mg, av⟩ ρ H p.2 v) kvs vs) (si : SndE X.K X.mg ti Wx m) : SndE X.K X.mg (tKdIn b vs ti) Wx (mKdIn b kvs m) := by
  intro av σ e ρ H st Q s er h2
  refine si av σ e ρ H st _ s er ((Post.bind h2).imp ?_)
  rintro v H1 ⟨dd, ρ1, st1, x1, s1, r1, q1⟩
  split at q1
  · rename_i k
    cases r1
    refine ⟨k, rfl, ?_⟩
    rw [kd_is (R := fun d u => ∃ v, RelV v u ∧ ∀ av ρ H, Rel ⟨X.K, X.mg, av⟩ ρ H d v) pr]
    exact q1 _ ρ1 H1 .refl s1 (.bl _)
  · exact q1.elim
theorem de_kdin (hg : Gl X x) (h1 : (x == ("__debug__" : Str)) = false) (kd : KD X.prog X.w X.K X.mg x kvs) (hi : DE X i m) : DE X (.Compare i [.In] [.Name x p] pos) (mKdIn true kvs m) := fun Wx tk => by
  obtain ⟨ti, pi, si⟩ := hi Wx tk
  obtain ⟨a, o, es, ep, vs, hm, hd, l, c, d, ks, ps, nd, pr⟩ := kd
  exact ⟨tKdIn true vs ti, pe_cmp (pc_kdin hg h1 hm hd l c d ks ps nd pi) (marks_no rfl), snd_kdin pr si⟩
theorem de_kdnotin (hg : Gl X x) (h1 : (x == ("__debug__" : Str)) = false) (kd : KD X.prog X.w X.K X.mg x kvs) (hi : DE X i m) : DE X (.Compare i [.NotIn] [.Name x p] pos) (mKdIn false kvs m) := fun Wx tk => by
  obtain ⟨ti, pi, si⟩ := hi Wx tk
  obtain ⟨a, o, es, ep, vs, hm, hd, l, c, d, ks, ps, nd, pr⟩ := kd
  exact ⟨tKdIn false vs ti, pe_cmp (pc_kdnotin hg h1 hm hd l c d ks ps nd pi) (marks_no rfl), snd_kdin pr si⟩
end
/-- the facts of a dict of words, as the top's heap shows them -/
def kdEnt (w : World) (t : Str × Tok × Value) : DictEntry := ⟨PyData.keyHash w.params t.1, .str t.1 t.2.1, t.2.2⟩
theorem kd_keys {P : Program} {w : World} : ∀ l : List (Str × Tok × Value), ∀ e ∈ l.map (kdEnt w), ∃ k, (mixKind P w).is k e.key = true ∧ e.hash = (mixKind P w).hash k
  | [], e, h => nomatch h
  | t :: l, e, h => by
    rcases List.mem_cons.mp h with rfl | h
    · exact ⟨Sum.inr t.1, keyIs_str t.1 t.2.1, rfl⟩
    · exact kd_keys l e h
theorem kd_pairs {P : Program} {w : World} : ∀ l : List (Str × Tok × Value), Pairs (mixKind P w) (l.map (kdEnt w)) (l.map fun t => (Sum.inr t.1, t.2.2))
  | [] => .nil
  | t :: l => .cons (keyIs_str t.1 t.2.1) rfl (kd_pairs l)
theorem kd_paired {R : D → Value → Prop} : ∀ {kvs : List (Str × D)} {l : List (Str × Tok × Value)}, Paired (fun p q => q.1 = p.1 ∧ R p.2 q.2.2) kvs l → Paired (fun (p : Str × D) (q : Key × Value) => q.1 = Sum.inr p.1 ∧ R p.2 q.2) kvs (l.map fun t => (Sum.inr t.1, t.2.2))
  | _, _, .nil => .nil
  | _, _, .cons h t => .cons ⟨by rw [← h.1], h.2⟩ (kd_paired t)
theorem kd_mk {P : Program} {w : World} {K : PySem.W.Frag} {mg : Str → Option Value} {x : Str} {a : Addr} {n : Nat} {kvs : List (Str × D)} (l : List (Str × Tok × Value)) (hm : mg x = some (.ref a)) (hs : (a == sysModules) = false)
    (hl : K.lookup a = some ⟨.type "dict", none, .dict (l.map (kdEnt w)).toArray n, #[]⟩) (nd : (l.map (·.1)).Nodup)
    (pr : Paired (fun (p : Str × D) (q : Str × Tok × Value) => q.1 = p.1 ∧ ∃ v, RelV v q.2.2 ∧ ∀ av ρ H, Rel ⟨K, mg, av⟩ ρ H p.2 v) kvs l) : KD P w K mg x kvs := by
  refine ⟨a, _, _, n, l.map fun t => (Sum.inr t.1, t.2.2), hm, hs, hl, ⟨rfl, rfl, rfl⟩, rfl, fun e he => kd_keys l e (by simpa using he), by simpa using kd_pairs l, ?_, kd_paired (R := fun d u => ∃ v, RelV v u ∧ ∀ av ρ H, Rel ⟨K, mg, av⟩ ρ H d v) pr⟩
  rw [List.map_map]
  have e : ((fun x : Key × Value => x.1) ∘ fun t : Str × Tok × Value => ((Sum.inr t.1 : Key), t.2.2)) = (Sum.inr : Str → Key) ∘ fun t => t.1 := rfl
  rw [e, ← List.map_map]
  exact List.Pairwise.map _ (fun a b h e => h (Sum.inr.inj e)) nd
section
variable {X : Cx} {x : Str} {kvs : List (Str × D)} {i : Expr} {m : EM} {p pos : Pos}
theorem dt_kdin (hg : Gl X x) (h1 : (x == ("__debug__" : Str)) = false) (kd : KD X.prog X.w X.K X.mg x kvs) (hi : DE X i m) : DT X (.Compare i [.In] [.Name x p] pos) (mTst (mKdIn true kvs m)) := fun Wx tk => by
  obtain ⟨ti, pi, si⟩ := hi Wx tk
  obtain ⟨a, o, es, ep, vs, hm, hd, l, c, d, ks, ps, nd, pr⟩ := kd
  exact ⟨_, pt_cmp (pc_kdin hg h1 hm hd l c d ks ps nd pi) (marks_no rfl), snd_tst (snd_kdin pr si)⟩
theorem dt_kdnotin (hg : Gl X x) (h1 : (x == ("__debug__" : Str)) = false) (kd : KD X.prog X.w X.K X.mg x kvs) (hi : DE X i m) : DT X (.Compare i [.NotIn] [.Name x p] pos) (mTst (mKdIn false kvs m)) := fun Wx tk => by
  obtain ⟨ti, pi, si⟩ := hi Wx tk
  obtain ⟨a, o, es, ep, vs, hm, hd, l, c, d, ks, ps, nd, pr⟩ := kd
  exact ⟨_, pt_cmp (pc_kdnotin hg h1 hm hd l c d ks ps nd pi) (marks_no rfl), snd_tst (snd_kdin pr si)⟩
end
end DX

/-! DxTr: own exceptions without fields: raised, caught. -/
set_option linter.all false
set_option maxRecDepth 100000
set_option Elab.async false
namespace DX
open PySem PySem.Spec PyProof.Rows L2

/-- C() of an own class -/
theorem pmk_own0 {X : Cx} {C : Addr} {bmB : List Value} {B newId initId : String} {x : Str} {p pos : Pos} (F : ExcBaseFacts B newId initId bmB) (q : PySem.W.excIn X.K C bmB newId = true) (gC : X.mg x = some (.ref C)) (kC : PySem.W.keepIn X.K (.ref C) = true) (r : Raises X (.ref C)) (hg : Gl X x)
    (hdb : (x == ("__debug__" : Str)) = false) : PMk X (.Call (.Name x p) [] [] pos) (fun _ H Q => Q (.ref C) none H) := by
  intro pins s σ H Q I h
  refine wpAny_Call_Name_kw (ld_glob I hg gC ?_ hdb)
  refine PySem.W.callWith_K0 I.kIn kC ?_
  show wpAny _ _ (call (.ref C) []) _ _ _
  obtain ⟨bm, N, nm, qn, bs, hdct, sn, sub, ab, col, dd, k0, k1, k2, k3, k5, mN, hC, hN, hni, T⟩ := exc_obj I.kIn q
  refine wpAny_call_exc_subT F T hC hN hni (fun h' e hm => ?_) (Nat.zero_le _)
  exact mk_of I hm r h (I.hok.gone hm.new)
abbrev vErr : List Value := [.type "ValueError", .type "Exception", .type "BaseException", .type "object"]
/-- what is held of an own exception class -/
structure ExF (K : PySem.W.Frag) (mg : Str → Option Value) (x : Str) : Prop where
  ex : ∃ C, mg x = some (.ref C) ∧ PySem.W.keepIn K (.ref C) = true ∧ PySem.W.excIn K C vErr "ValueError.__new__" = true ∧ PySem.W.subIn K (.ref C) (.type "BaseException") = some true ∧ PySem.W.typeIn K (.ref C) = some (.type "type") ∧ ExcC K C
section
variable {X : Cx} {K : PySem.W.Frag} {mg : Str → Option Value} {Wx : WX}
def sRaise (x : Str) : SM := fun e st => .exc x [] e st
theorem ds_raise0 {x : Str} {p p2 pos : Pos} (hc : X.calm = true) (hx : ExF X.K X.mg x) (hg : Gl X x) (hdb : (x == ("__debug__" : Str)) = false) : DS X (.Raise (some (.Call (.Name x p) [] [] p2)) none pos) (sRaise x) := fun Wx tk => by
  obtain ⟨C, gC, kC, xC, bC, tC, _⟩ := hx.ex
  refine ⟨_, ps_raise hc tk (pmk_own0 PySem.F.excBase_ValueError xC gC kC (raises_own bC tC) hg hdb), ?_⟩
  intro av σ e ρ H st D s er h
  have h' : ∀ cls dd σ' ρ' H', Ext ρ H ρ' H' → SR ⟨X.K, X.mg, av⟩ ρ' H' st → ER ⟨X.K, X.mg, av⟩ ρ' H' e σ' → ExcR ⟨X.K, X.mg, av⟩ ρ' H' x [] cls dd → Wx cls dd σ' H' := h
  exact h' (.ref C) none σ ρ H .refl s er ⟨C, gC, rfl, .inl ⟨rfl, rfl⟩⟩
end
/-! ### statements read by what they come to -/
def tOfS (K : PySem.W.Frag) (mg : Str → Option Value) (Wx : WX) (m : SM) : TS := fun D σ H => ∃ av e ρ st, SR ⟨K, mg, av⟩ ρ H st ∧ ER ⟨K, mg, av⟩ ρ H e σ ∧ PostS ⟨K, mg, av⟩ Wx D ρ H (m e st)
theorem DSs.pss {X : Cx} {b : List Stmt} {m : SM} {Wx : WX} (h : DSs X b m) (tk : Takes X Wx) : PSs X b (tOfS X.K X.mg Wx m) := by
  obtain ⟨t, p, s⟩ := h Wx tk
  exact ⟨fun pins sh σ H Q I ⟨av, e, ρ, st, sr, er, q⟩ => p.run pins sh σ H Q I (s av σ e ρ H st Q sr er q)⟩
/-! ### what a suite gives back -/
/-- a text, or whether the error is one of a class -/
inductive SI where
  | txt (x : Str)
  | isi (y : Str)
/-- of an error of the class c -/
def SI.ev (isis : Str → Str → Option Bool) (c : Str) : SI → Option D
  | .txt x => some (.str x)
  | .isi y => (isis c y).map .bl
def SI.evs (isis : Str → Str → Option Bool) (c : Str) : List SI → Option (List D)
  | [] => some []
  | s :: r => match s.ev isis c, SI.evs isis c r with
    | some d, some ds => some (d :: ds)
    | _, _ => none
/-- facts about the classes -/
structure ExT (K : PySem.W.Frag) (mg : Str → Option Value) (subs isis : Str → Str → Option Bool) : Prop where
  sub : ∀ c x b, subs c x = some b → ∃ Cc Ch, mg c = some (.ref Cc) ∧ mg x = some (.ref Ch) ∧ PySem.W.exmOne K (.ref Cc) (.ref Ch) = some b ∧ ExcC K Cc
  isi : ∀ c y b, isis c y = some b → ∃ Cc Cy, mg c = some (.ref Cc) ∧ mg y = some (.ref Cy) ∧ PySem.W.kitOne K (.ref Cc) (.ref Cy) = some b
/-- an item's text -/
inductive SIe (X : Cx) (n : Str) : Expr → SI → Prop
  | txt {x : Str} {j : Nat} {p : Pos} : SIe X n (.Constant (.str x) j p) (.txt x)
  | isi {y : Str} {p1 p2 p3 p4 : Pos} : Gl X "isinstance" → X.mg "isinstance" = none → Gl X y → (y == ("__debug__" : Str)) = false → SIe X n (.Call (.Name "isinstance" p1) [.Name n p2, .Name y p3] [] p4) (.isi y)
/-- how an item reads, the error being at a, of the class D0 -/
def tSI (K : PySem.W.Frag) (mg : Str → Option Value) (i : Nat) (D0 a : Addr) : SI → TE
  | .txt x => tC (.str x)
  | .isi y => fun σ H Q => ∃ Cy, mg y = some (.ref Cy) ∧ tCB (rIsE K D0 a) (tCons (tVar i) (tCons (tC (.ref Cy)) tNil)) σ H Q
def tSIs (K : PySem.W.Frag) (mg : Str → Option Value) (i : Nat) (D0 a : Addr) : List SI → TA
  | [] => tNil
  | s :: r => tCons (tSI K mg i D0 a s) (tSIs K mg i D0 a r)
section
variable {X : Cx} {n : Str} {i : Nat} {a D0 : Addr} {oe : Obj} {pn : List (Addr × Obj)}
theorem pe_si (hi : X.N[i]? = some n) (hv : Vis X.env.scope n) (hd : (n == ("__debug__" : Str)) = false) (hcd : (n == ("__classdict__" : Str)) = false) (C : ExcC X.K D0) (hz : Zc (.ref D0) none oe) (hf : ∃ vs, oe.data = .fields vs) {e : Expr} {s : SI} (h : SIe X n e s) : PE (X.suite a ((a, oe) :: pn)) e (tSI X.K X.mg i D0 a s) := by
  cases h with
  | txt => exact pe_str
  | @isi y p1 p2 p3 p4 g1 g2 g3 g4 =>
    refine ⟨fun pins sh σ H Q I ⟨Cy, hy, q⟩ => ?_⟩
    exact (pe_callB (X := X.suite a ((a, oe) :: pn)) (call_isE C hz hf) g1 g2 (by decide +kernel) (pa_cons (pe_var hi hv hd hcd) (pa_cons (pe_glob (v := .ref Cy) g3 hy rfl g4) pa_nil)) (by decide +kernel) (by decide +kernel)).run pins sh σ H Q I q
theorem SIe.star {e : Expr} {s : SI} (h : SIe X n e s) : isStar e = false := by cases h <;> rfl
theorem pa_si (hi : X.N[i]? = some n) (hv : Vis X.env.scope n) (hd : (n == ("__debug__" : Str)) = false) (hcd : (n == ("__classdict__" : Str)) = false) (C : ExcC X.K D0) (hz : Zc (.ref D0) none oe) (hf : ∃ vs, oe.data = .fields vs) : ∀ {es : List Expr} {ss : List SI}, Paired (SIe X n) es ss → PA (X.suite a ((a, oe) :: pn)) es (tSIs X.K X.mg i D0 a ss)
  | [], _, h => by cases h; exact pa_nil
  | e :: es, _, h => by
    cases h with | cons h1 h2 =>
    exact pa_cons (pe_si hi hv hd hcd C hz hf h1) (pa_si hi hv hd hcd C hz hf h2) (star_cons h1.star)
end
/-- what the suite's one statement is -/
inductive Su (X : Cx) (n : Str) : Stmt → Bool × List SI → Prop
  | one {e : Expr} {s : SI} {p : Pos} : SIe X n e s → Su X n (.Return (some e) p) (false, [s])
  | lst {es : List Expr} {ss : List SI} {p p2 : Pos} : Paired (SIe X n) es ss → Su X n (.Return (some (.List es p2)) p) (true, ss)
def tSu (K : PySem.W.Frag) (mg : Str → Option Value) (i : Nat) (D0 a : Addr) : Bool × List SI → TS
  | (false, [s]) => tRet (tSI K mg i D0 a s)
  | (true, ss) => tRet (tLst (tSIs K mg i D0 a ss))
  | _ => fun _ _ _ => False
/-- the suite, whatever the error is -/
def tSuA (K : PySem.W.Frag) (mg : Str → Option Value) (i : Nat) (u : Bool × List SI) : Addr → Value → Option Addr → TS := fun a cls d D σ H => ∃ D0, cls = .ref D0 ∧ d = none ∧ ExcC K D0 ∧ tSu K mg i D0 a u D σ H
section
variable {X : Cx} {n : Str} {i : Nat} {a : Addr} {oe : Obj} {pn : List (Addr × Obj)} {cls : Value} {d : Option Addr}
theorem pss_su (hi : X.N[i]? = some n) (hv : Vis X.env.scope n) (hd : (n == ("__debug__" : Str)) = false) (hcd : (n == ("__classdict__" : Str)) = false) {st : Stmt} {u : Bool × List SI} (h : Su X n st u) (hz : Zc cls d oe) (hf : ∃ vs, oe.data = .fields vs) : PSs (X.suite a ((a, oe) :: pn)) [st] (tSuA X.K X.mg i u a cls d) := by
  refine ⟨fun pins sh σ H D I ⟨D0, e1, e2, C, q⟩ => ?_⟩
  subst e1 e2
  cases h with
  | one h => exact (pss_one (ps_ret (pe_si hi hv hd hcd C hz hf h))).run pins sh σ H D I q
  | lst h => exact (pss_one (ps_ret (pe_lst (pa_si hi hv hd hcd C hz hf h)))).run pins sh σ H D I q
end
/-! ### what the readings come to -/
theorem si_snd {K : PySem.W.Frag} {mg : Str → Option Value} {subs isis : Str → Str → Option Bool} (T : ExT K mg subs isis) {c : Str} {i : Nat} {a D0 : Addr} (hc : mg c = some (.ref D0)) {s : SI} {d : D} (h : s.ev isis c = some d) {σ : L2.St} (hσ : σ[i]? = some (some (.ref a))) {H : Hp} {Q : VK} (q : ∀ v, (∀ av ρ H, Rel ⟨K, mg, av⟩ ρ H d v) → Q v H) : tSI K mg i D0 a s σ H Q := by
  cases s with
  | txt x => cases h; exact q _ fun _ _ _ => .str x
  | isi y =>
    have h' : (isis c y).map D.bl = some d := h
    cases hb : isis c y with
    | none => rw [hb] at h'; cases h'
    | some b =>
      rw [hb] at h'
      cases h'
      obtain ⟨Cc, Cy, h1, h2, h3⟩ := T.isi c y b hb
      rw [hc] at h1
      cases h1
      exact ⟨Cy, h2, _, hσ, .ref Cy, .ref Cy, b, rfl, fun u r => by cases r; rfl, h3, q _ fun _ _ _ => .bl b⟩
theorem sis_snd {K : PySem.W.Frag} {mg : Str → Option Value} {subs isis : Str → Str → Option Bool} (T : ExT K mg subs isis) {c : Str} {i : Nat} {a D0 : Addr} (hc : mg c = some (.ref D0)) : ∀ {ss : List SI} {ds : List D}, SI.evs isis c ss = some ds → ∀ {σ : L2.St}, σ[i]? = some (some (.ref a)) → ∀ {H : Hp} {Q : List V → Hp → Prop}, (∀ vs, (∀ av ρ H, Rels ⟨K, mg, av⟩ ρ H ds vs) → Q vs H) → tSIs K mg i D0 a ss σ H Q
  | [], ds, h, σ, hσ, H, Q, q => by cases h; exact q _ fun _ _ _ => .nil
  | s :: ss, ds, h, σ, hσ, H, Q, q => by
    unfold SI.evs at h
    split at h
    · rename_i d ds' h1 h2
      cases h
      exact si_snd T hc h1 hσ fun v r => sis_snd T hc h2 hσ fun vs rs => q _ fun av ρ H => .cons (r av ρ H) (rs av ρ H)
    · cases h
/-- what a suite gives back for an error of the class c -/
def suD (isis : Str → Str → Option Bool) (c : Str) : Bool × List SI → Option D
  | (false, [s]) => s.ev isis c
  | (true, ss) => match SI.evs isis c ss with
    | some ds => if fits ds then some (.lst ds) else none
    | none => none
  | _ => none
/-- try: body, except x as n: return .. -/
def sTry (subs isis : Str → Str → Option Bool) (x : Str) (i : Nat) (u : Bool × List SI) (body : SM) : SM := fun e st => match body e st with
  | .exc c fs e' st' => match subs c x with
    | some true => if fs.isEmpty && decide (i < e'.length) then match suD isis c u with
        | some d => .rt d st'
        | none => .no
      else .no
    | some false => .exc c fs e' st'
    | none => .no
  | r => r
theorem ds_try {X : Cx} {subs isis : Str → Str → Option Bool} (T : ExT X.K X.mg subs isis) {x n : Str} {i : Nat} {body : List Stmt} {st : Stmt} {u : Bool × List SI} {np pos pos' : Pos} {m : SM} {Cx_ : Addr}
    (hs : X.stack = X.env :: X.outer) (hf : X.env.frame = some X.env.locals) (hN : X.N.Nodup) (hi : X.N[i]? = some n) (hln : X.env.kindOf n = some .local) (hv : Vis X.env.scope n) (hd : (n == ("__debug__" : Str)) = false) (hcd : (n == ("__classdict__" : Str)) = false) (hc : Names X x (.ref Cx_)) (hmx : X.mg x = some (.ref Cx_))
    (hb : ∀ pn xe, PassesOwn (model X.prog X.w) X.A X.env xe → DSs (X.tr pn xe) body m) (hu : Su X n st u) :
    DS X (.Try body [.ExceptHandler (some (.Name x np)) (some n) [st] pos'] [] [] pos) (sTry subs isis x i u m) := fun Wx tk => by
  refine ⟨_, ps_try_as (tb := fun W => tOfS X.K X.mg W m) (ts := tSuA X.K X.mg i u) hs hf hN hi hln hc tk (fun W pn xe tkW own => (hb pn xe own).pss tkW) (fun a oe cls d pn hz hfl => pss_su hi hv hd hcd hu hz hfl), ?_⟩
  intro av σ e ρ H st0 D s er h
  refine ⟨av, e, ρ, st0, s, er, ?_⟩
  unfold sTry at h
  cases q : m e st0 with
  | nx e' st' => rw [q] at h; exact h
  | bk e' st' => rw [q] at h; exact h
  | ct e' st' => rw [q] at h; exact h
  | rt d st' => rw [q] at h; exact h
  | no => rw [q] at h; exact h
  | exc c fs e' st' =>
    rw [q] at h
    dsimp only at h
    intro cls dd σ' ρ' H' x1 s1 er1 xr
    cases hb2 : subs c x with
    | none => rw [hb2] at h; exact h.elim
    | some b =>
      rw [hb2] at h
      obtain ⟨Cc, Ch, g1, g2, g3, C⟩ := T.sub c x b hb2
      have eh : Ch = Cx_ := by rw [hmx] at g2; cases g2; rfl
      subst eh
      have xr0 := xr
      obtain ⟨C1, c1, c2, c3⟩ := xr
      have c1' : X.mg c = some (.ref C1) := c1
      rw [g1] at c1'
      cases c1'
      subst c2
      refine ⟨b, g3, fun hbt => ?_, fun hbf => ?_⟩
      · subst hbt
        dsimp only at h
        intro a na
        split at h
        · rename_i he
          obtain ⟨he1, he2⟩ := Bool.and_eq_true_iff.mp he
          have hfs : fs = [] := List.isEmpty_iff.mp he1
          have dn : dd = none := by
            rcases c3 with ⟨_, z⟩ | ⟨_, _, z, _⟩
            · exact z
            · exact absurd hfs z
          have hσ : (σ'.set i (some (.ref a)))[i]? = some (some (.ref a)) := by
            exact List.getElem?_set_self (by rw [← er1.len]; exact of_decide_eq_true he2)
          refine ⟨Cc, rfl, dn, C, ?_⟩
          split at h
          · rename_i d hd'
            unfold suD at hd'
            split at hd'
            · rename_i si
              exact si_snd T g1 hd' hσ fun v r => h v ρ' H' x1 s1 (r av ρ' H')
            · rename_i ss
              split at hd'
              · rename_i ds hds
                split at hd'
                · rename_i hft
                  cases hd'
                  refine sis_snd T g1 hds hσ fun vs rs => ⟨by rw [← (rs av ρ' H').length]; exact of_decide_eq_true hft, fun p np => ?_⟩
                  have x2 : Ext ρ' H' ρ' (upd H' p (.lst vs)) := .new np
                  exact h (.ref p) ρ' _ (x1.trans x2) (s1.new np) (.lst (.inl upd_same) (s1.nin np) (s1.nav np) ((rs av ρ' H').ext x2))
                · cases hd'
              · cases hd'
            · cases hd'
          · exact h.elim
        · exact h.elim
      · subst hbf
        dsimp only at h
        have h2 : PostS ⟨X.K, X.mg, av⟩ Wx D ρ H (.exc c fs e' st') := h
        exact h2 _ _ _ _ _ x1 s1 er1 xr0
/-! ### tables of classes -/
structure ExI where
  excs : List Str
  subs : List ((Str × Str) × Bool)
  isis : List ((Str × Str) × Bool)
  kds : List (Str × List (Str × D))
def ExI.sub (t : ExI) (c x : Str) : Option Bool := (t.subs.find? fun e => decide (e.1 = (c, x))).map (·.2)
def ExI.isi (t : ExI) (c x : Str) : Option Bool := (t.isis.find? fun e => decide (e.1 = (c, x))).map (·.2)
def ExI.kd (t : ExI) (x : Str) : Option (List (Str × D)) := (t.kds.find? fun e => decide (e.1 = x)).map (·.2)
structure ExOk (P : Program) (w : World) (K : PySem.W.Frag) (mg : Str → Option Value) (t : ExI) : Prop where
  exF : ∀ x ∈ t.excs, ExF K mg x
  exT : ExT K mg t.sub t.isi
  kdF : ∀ e ∈ t.kds, KD P w K mg e.1 e.2
def noEx : ExI := ⟨[], [], [], []⟩
theorem find_pair {l : List ((Str × Str) × Bool)} {c x : Str} {b : Bool} (h : (l.find? fun e => decide (e.1 = (c, x))).map (·.2) = some b) : ((c, x), b) ∈ l := by
  cases q : l.find? fun e => decide (e.1 = (c, x)) with
  | none => rw [q] at h; cases h
  | some e =>
    rw [q] at h
    cases h
    have e1 : e.1 = (c, x) := of_decide_eq_true (List.find?_some (p := fun e : (Str × Str) × Bool => decide (e.1 = (c, x))) q)
    have m := List.mem_of_find?_eq_some q
    rw [show e = ((c, x), e.2) by rw [← e1]] at m
    exact m
/-- facts one by one -/
def SubF (K : PySem.W.Frag) (mg : Str → Option Value) (e : (Str × Str) × Bool) : Prop := ∃ Cc Ch, mg e.1.1 = some (.ref Cc) ∧ mg e.1.2 = some (.ref Ch) ∧ PySem.W.exmOne K (.ref Cc) (.ref Ch) = some e.2 ∧ ExcC K Cc
def IsiF (K : PySem.W.Frag) (mg : Str → Option Value) (e : (Str × Str) × Bool) : Prop := ∃ Cc Cy, mg e.1.1 = some (.ref Cc) ∧ mg e.1.2 = some (.ref Cy) ∧ PySem.W.kitOne K (.ref Cc) (.ref Cy) = some e.2
theorem exOk_mk {K : PySem.W.Frag} {mg : Str → Option Value} {t : ExI} (h1 : ∀ x ∈ t.excs, ExF K mg x) (h2 : ∀ e ∈ t.subs, SubF K mg e) (h3 : ∀ e ∈ t.isis, IsiF K mg e) {P : Program} {w : World} (h4 : ∀ e ∈ t.kds, KD P w K mg e.1 e.2) : ExOk P w K mg t :=
  ⟨h1, ⟨fun c x b h => h2 _ (find_pair h), fun c y b h => h3 _ (find_pair h)⟩, h4⟩
theorem ExOk.kd {P : Program} {w : World} {K : PySem.W.Frag} {mg : Str → Option Value} {t : ExI} (h : ExOk P w K mg t) {x : Str} {kvs : List (Str × D)} (e : t.kd x = some kvs) : KD P w K mg x kvs := by
  unfold ExI.kd at e
  cases q : t.kds.find? fun e => decide (e.1 = x) with
  | none => rw [q] at e; cases e
  | some y =>
    rw [q] at e
    cases e
    have e1 : y.1 = x := of_decide_eq_true (List.find?_some (p := fun e : Str × List (Str × D) => decide (e.1 = x)) q)
    rw [← e1]
    exact h.kdF y (List.mem_of_find?_eq_some q)
theorem noEx_ok {P : Program} {w : World} {K : PySem.W.Frag} {mg : Str → Option Value} : ExOk P w K mg noEx := exOk_mk (t := noEx) (fun x h => absurd (show x ∈ ([] : List Str) from h) List.not_mem_nil) (fun x h => absurd (show x ∈ ([] : List ((Str × Str) × Bool)) from h) List.not_mem_nil) (fun x h => absurd (show x ∈ ([] : List ((Str × Str) × Bool)) from h) List.not_mem_nil) (fun x h => absurd (show x ∈ ([] : List (Str × List (Str × D))) from h) List.not_mem_nil)
theorem all_nil {α : Type} {P : α → Prop} : ∀ x ∈ ([] : List α), P x := fun _ h => nomatch h
theorem all_cons {α : Type} {P : α → Prop} {a : α} {l : List α} (h : P a) (t : ∀ x ∈ l, P x) : ∀ x ∈ a :: l, P x := fun x hx => by
  rcases List.mem_cons.mp hx with rfl | hx
  · exact h
  · exact t x hx
end DX

/-! DxGt: d.get(k), d.get(k, x), d a dict of the store; dict(d). -/
set_option linter.all false
set_option maxRecDepth 100000
set_option Elab.async false
namespace DX
open PySem PySem.Spec PyProof.Rows L2
def rGet : V → List V → Hp → VK → Prop := fun x xs H Q => ∃ a kvs k, x = .ref a ∧ H a = some (.dK kvs) ∧ ((xs = [kV k] ∧ Q ((valV kvs k).getD .non) H) ∨ ∃ z, xs = [kV k, z] ∧ Q ((valV kvs k).getD z) H)
theorem mt_get {X : Cx} (hu : X.A.units + 1 < cLine) : MtR X "dict.get" rGet := by
  intro pins s σ H x xs v us Q I rx rxs h
  obtain ⟨a, kvs, k, rfl, e, h⟩ := h
  cases rx
  rcases h with ⟨rfl, q⟩ | ⟨z, rfl, q⟩
  · cases rxs with | cons r1 t =>
    cases t
    exact d_get1 hu I (.inl ⟨kvs, k, .of e, rfl, rfl⟩) r1 fun w' s' I' r' => ⟨_, H, I', r', q⟩
  · cases rxs with | cons r1 t =>
    cases t with | cons r2 t =>
    cases t
    exact d_get2 hu I (.inl ⟨kvs, k, .of e, rfl, rfl⟩) r1 r2 fun w' s' I' r' => ⟨_, H, I', r', q⟩
def getOf (st : Sto) (kvs : List (Key × D)) : List D → R D
  | [y] => match keyOf y with
    | some k => .ok ((valD kvs k).getD .non) st
    | none => .no
  | [y, z] => match keyOf y with
    | some k => .ok ((valD kvs k).getD z) st
    | none => .no
  | _ => .no
def mGet (o : EM) (ms : List EM) : EM := fun e st => (o e st).bind fun d st1 => match dctOf st1 d with
  | some p => (mL ms e st1).bind fun ds st2 => match st2[p.1]? with
    | some (.dct kvs) => getOf st2 kvs ds
    | _ => .no
  | none => .no
section
variable {K : PySem.W.Frag} {mg : Str → Option Value} {Wx : WX}
theorem KVs.get {W : Wd} {ρ : List Addr} {H : Hp} {kvs : List (Key × D)} {ws : List (Key × V)} (r : KVs W ρ H kvs ws) (k : Key) {z : D} {v : V} (rz : Rel W ρ H z v) : Rel W ρ H ((valD kvs k).getD z) ((valV ws k).getD v) := by
  have g := r.val k
  cases q : valD kvs k with
  | none => rw [q] at g; rw [g]; exact rz
  | some d => rw [q] at g; obtain ⟨u, h1, h2⟩ := g; rw [h1]; exact h2
theorem snd_get {to : TE} {ta : TA} {o : EM} {ms : List EM} (ho : SndE K mg to Wx o) (ha : SndL K mg ta Wx (mL ms)) : SndE K mg (tBM K "dict" rGet to ta) Wx (mGet o ms) := by
  intro av σ e ρ H st Q s er h
  refine ho av σ e ρ H st _ s er ((Post.bind h).imp ?_)
  rintro v H1 ⟨d, ρ1, st1, x1, s1, r1, q1⟩
  split at q1
  · rename_i p e1
    obtain ⟨n, ys⟩ := p
    obtain ⟨a, vs, rfl, hn, ha1, t⟩ := dctOf_rel s1 r1 e1
    refine ⟨.inr (.inr (.inl ⟨rfl, .inl ⟨vs, ha1⟩⟩)), ?_⟩
    refine ha av σ e ρ1 H1 st1 _ s1 (er.ext x1) ((Post.bind q1).imp ?_)
    rintro ws H2 ⟨ds, ρ2, st2, x2, s2, r2, q2⟩
    split at q2
    · rename_i kvs e2
      have hn2 : ρ2[n]? = some a := by
        obtain ⟨l, rfl, _⟩ := x2.more
        rw [List.getElem?_append_left (List.getElem?_eq_some_iff.mp hn).1]
        exact hn
      obtain ⟨us, h2, t2⟩ := s2.at_ n a _ hn2 e2
      unfold getOf at q2
      split at q2
      · split at q2
        · rename_i k ek
          cases r2 with | cons ry t =>
          cases t
          obtain rfl := keyOf_rel ry ek
          exact ⟨a, us, k, rfl, h2, .inl ⟨rfl, q2.ok s2 (t2.get k .non)⟩⟩
        · exact q2.elim
      · split at q2
        · rename_i k ek
          cases r2 with | cons ry t =>
          cases t with | cons rz t =>
          cases t
          obtain rfl := keyOf_rel ry ek
          exact ⟨a, us, k, rfl, h2, .inr ⟨_, rfl, q2.ok s2 (t2.get k rz)⟩⟩
        · exact q2.elim
      · exact q2.elim
    · exact q2.elim
  · exact q1.elim
end
theorem de_get {X : Cx} {o e : Expr} {es : List Expr} {mo : EM} {ms : List EM} {apos pos : Pos} (hu : X.A.units + 1 < cLine) (ho : DE X o mo) (ha : DL X (e :: es) (mL ms)) (st : (e :: es).all (fun e => !isStar e) = true) (nc : isCall o = false) (few : (e :: es).length < 30) (line : (apos.endLine == pos.line) = true) :
    DE X (.Call (.Attribute o "get" apos) (e :: es) [] pos) (mGet mo ms) := fun Wx tk =>
  let ⟨_, p0, s0⟩ := ho Wx tk
  let ⟨_, p1, s1⟩ := ha Wx tk
  ⟨_, pe_bm PySem.F.plainAttrs_dict PySem.F.slot_dict_get PySem.F.type_dict_get (mt_get hu) p0 p1 (base_is nc) (by
      rw [star_all st]
      show (true && true && decide ((e :: es).length + 0 + 0 < 30)) = true
      rw [decide_eq_true (show (e :: es).length + 0 + 0 < 30 from few)]; rfl) line (star_cons (by rw [List.all_cons, Bool.and_eq_true] at st; simpa using st.1)) (star_any (by rw [List.all_cons, Bool.and_eq_true] at st; exact st.2)), snd_get s0 s1⟩
/-! ### dict(d) -/
def dictD : List D → Sto → R D
  | [d], st => match dctOf st d with
    | some p => .ok (.loc st.length) (st ++ [.dct p.2])
    | none => .no
  | _, _ => .no
theorem snd_dictC {K : PySem.W.Frag} {mg : Str → Option Value} : SndC K mg (fun xs H Q => ∃ (a : Addr) (kvs : List (Key × V)), xs = [.ref a] ∧ Rd H a (.dK kvs) ∧ ∀ p, H p = none → Q (.ref p) (upd H p (.dK kvs))) dictD := by
  intro av E ρ H st Q ds vs s rs h
  unfold dictD at h
  split at h
  · cases rs with | cons r t =>
    cases t
    split at h
    · rename_i p e
      obtain ⟨n, xs⟩ := p
      obtain ⟨a, ws, rfl, hn, ha, t⟩ := dctOf_rel s r e
      refine ⟨a, ws, rfl, .of ha, fun q nq => ?_⟩
      have x : Ext ρ H (ρ ++ [q]) (upd H q (.dK ws)) := .push nq
      exact h (.ref q) _ _ x (s.push nq ⟨ws, upd_same, t.ext x⟩) (.loc (by rw [← s.len, List.getElem?_append_right (Nat.le_refl _), Nat.sub_self]; rfl))
    · exact h.elim
  · exact h.elim
end DX

/-! DxL: a text turned into what it comes to, and that this is right. -/
set_option linter.all false
set_option maxRecDepth 100000
set_option Elab.async false
namespace DX
open PySem PySem.Spec PyProof.Rows L2

/-! ### list(range(..)) -/
def rgD (a b : Int) : List D := (List.range (b - a).toNat).map fun (i : Nat) => D.int (a + (i : Nat))
theorem rels_rg {W : Wd} {ρ : List Addr} {H : Hp} (a b : Int) : Rels W ρ H (rgD a b) (rgV a b) := by
  unfold rgD rgV
  generalize List.range (b - a).toNat = l
  induction l with
  | nil => exact .nil
  | cons i r ih => exact .cons (.int _) ih
instance (a b : Int) : Decidable (RgOk a b) := by unfold RgOk; infer_instance
def mLR1 (mt : Bool) (a : EM) : EM := fun e st => (a e st).bind fun d st1 => match d with
  | .int n => if RgOk 0 n then newL mt (rgD 0 n) st1 else .no
  | _ => .no
def mLR2 (mt : Bool) (a b : EM) : EM := fun e st => (a e st).bind fun d st1 => (b e st1).bind fun d2 st2 => match d, d2 with
  | .int i, .int n => if RgOk i n then newL mt (rgD i n) st2 else .no
  | _, _ => .no
section
variable {X : Cx} {a b : Expr} {ma mb : EM} {p1 p2 pos pos2 : Pos} {mt : Bool}
theorem de_lr1 (hc : X.calm = true) (hg : Gl X "list") (hm : X.mg "list" = none) (hg2 : Gl X "range") (hm2 : X.mg "range" = none) (ha : DE X a ma) (st : isStar a = false) :
    DE X (.Call (.Name "list" p1) [.Call (.Name "range" p2) [a] [] pos2] [] pos) (mLR1 mt ma) := fun Wx tk => by
  obtain ⟨t, q1, s1⟩ := ha Wx tk
  refine ⟨_, pe_listRg hc hg hm (prg_1 hg2 hm2 q1 (star_cons st)), ?_⟩
  intro av σ e ρ H st Q s er h
  refine s1 av σ e ρ H st _ s er ((Post.bind h).imp ?_)
  rintro v H1 ⟨d, ρ1, st1, x1, s1, r1, q1⟩
  split at q1
  · split at q1
    · rename_i z
      cases r1
      exact ⟨_, rfl, z, post_newL s1 (rels_rg _ _) q1⟩
    · exact q1.elim
  · exact q1.elim
theorem de_lr2 (hc : X.calm = true) (hg : Gl X "list") (hm : X.mg "list" = none) (hg2 : Gl X "range") (hm2 : X.mg "range" = none) (ha : DE X a ma) (hb : DE X b mb) (st : isStar a = false) (st2 : isStar b = false) :
    DE X (.Call (.Name "list" p1) [.Call (.Name "range" p2) [a, b] [] pos2] [] pos) (mLR2 mt ma mb) := fun Wx tk => by
  obtain ⟨t, q1, s1⟩ := ha Wx tk
  obtain ⟨t2, q2, s2⟩ := hb Wx tk
  refine ⟨_, pe_listRg hc hg hm (prg_2 hg2 hm2 q1 q2 (star_cons st) (star_cons st2) (star_any (by simp [st2]))), ?_⟩
  intro av σ e ρ H st Q s er h
  refine s1 av σ e ρ H st _ s er ((Post.bind h).imp ?_)
  rintro v H1 ⟨d, ρ1, st1, x1, s1, r1, q1⟩
  refine s2 av σ e ρ1 H1 st1 _ s1 (er.ext x1) ((Post.bind q1).imp ?_)
  rintro w H2 ⟨d2, ρ2, st2, x2, s2, r2, q2⟩
  split at q2
  · split at q2
    · rename_i z
      cases r1; cases r2
      exact ⟨_, _, rfl, rfl, z, post_newL s2 (rels_rg _ _) q2⟩
    · exact q2.elim
  · exact q2.elim
end

/-! ### the context of a def's text -/
structure Ctx where
  N : List Str
  sc : Scope
  tg : Str → Bool
  fns : Str → Option FI
  pats : Str → List (Nat × List Str)
  consts : Str → Option D
  muts : List Str
  ex : ExI
  self : Str := ""
  sl : Nat := 0
def isIdx (l : List Str) (x : Str) : Option Nat := l.findIdx? (fun y => decide (y = x))
theorem isIdx_get {l : List Str} {x : Str} {i : Nat} (h : isIdx l x = some i) : l[i]? = some x := by
  obtain ⟨hi, h2, _⟩ := List.findIdx?_eq_some_iff_getElem.mp h
  rw [List.getElem?_eq_getElem hi, of_decide_eq_true h2]
def isVis (sc : Scope) (x : Str) : Bool := match sc.names.lookup x with
  | some .local | some .cell | some .free => true
  | _ => false
theorem isVis_vis {sc : Scope} {x : Str} (h : isVis sc x = true) : Vis sc x := by
  unfold isVis at h
  cases q : sc.names.lookup x with
  | none => rw [q] at h; cases h
  | some k => cases k with
    | «local» => exact .inl q
    | cell => exact .inr (.inl q)
    | free => exact .inr (.inr q)
    | globalExplicit => rw [q] at h; cases h
    | globalImplicit => rw [q] at h; cases h
def isGl (sc : Scope) (x : Str) : Bool := match sc.names.lookup x with
  | some .globalImplicit => true
  | _ => false
theorem isGl_gl {sc : Scope} {x : Str} (h : isGl sc x = true) : sc.names.lookup x = some .globalImplicit := by
  unfold isGl at h
  split at h
  · rename_i q; exact q
  · cases h
def plainName (x : Str) : Bool := !(x == ("__debug__" : Str)) && !(x == ("__classdict__" : Str))
/-- names of builtins that are carried -/
def blts : List Str := ["len", "abs", "repr", "isinstance", "int", "list", "tuple", "str", "bool", "dict", "range", "enumerate", "zip", "sorted", "any", "all", "set", "min", "max", "sum", "reversed"]
/-- the places of a call's arguments -/
def permOf (ps : List Str) (j : Nat) (ks : List Str) : List Nat := ps.zipIdx.map fun pi => if pi.2 < j then pi.2 else j + (isIdx ks pi.1).getD 0
structure Good (X : Cx) (C : Ctx) : Prop where
  hN : X.N = C.N
  nd : X.N.Nodup
  sc : X.env.scope = C.sc
  calm : X.calm = true
  free : Free X.A
  units : X.A.units + 200 < cLine
  sh : Nonempty Shared
  tgs : ∀ x, C.tg x = true → Loc X.env.scope x ∧ (X.fn x = true ∨ X.env.scope.names.lookup x = some .local)
  fn : ∀ x F, C.fns x = some F → ∃ k f fd, X.mg x = some (.ref f) ∧ PySem.W.keepIn X.K (.ref f) = true ∧ FnG X.prog X.w X.K X.mg X.base k f fd F.ps (spF X.K X.mg F) ∧ Room (k + C.sl) X.A ∧ ∀ j ks, (j, ks) ∈ C.pats x → Bnd fd F.ps j ks (permOf F.ps j ks)
  const : ∀ x d, C.consts x = some d → ∃ v u, X.mg x = some u ∧ RelV v u ∧ ∀ av ρ H, Rel ⟨X.K, X.mg, av⟩ ρ H d v
  blt : ∀ x ∈ blts, X.mg x = none
  exn : ExOk X.prog X.w X.K X.mg C.ex
  room : Room C.sl X.A
  gen : C.self ∈ tbNames → ∃ c P, PySem.W.tabIn X.K C.self = some (c, P) ∧ X.env.code = .ref c ∧ GxR.TabB X.base X.mg c P
section
variable {X : Cx} {C : Ctx}
theorem Good.gl (g : Good X C) {x : Str} (h : isGl C.sc x = true) : Gl X x := by
  show X.env.scope.names.lookup x = _
  rw [g.sc]; exact isGl_gl h

/-! ### expressions -/
abbrev FE := Ctx → Bool → Expr → Option EM
abbrev FT := Ctx → Expr → Option TM
def SoundE (f : FE) : Prop := ∀ C mt e m, f C mt e = some m → ∀ X, Good X C → DE X e m
def SoundT (f : FT) : Prop := ∀ C e m, f C e = some m → ∀ X, Good X C → DT X e m
def cL (f : Expr → Option EM) : List Expr → Option (List EM)
  | [] => some []
  | e :: es => if isStar e then none else match f e with
    | some m => match cL f es with
      | some ms => some (m :: ms)
      | none => none
    | none => none
theorem cL_ok {f : Expr → Option EM} (hf : ∀ e m, f e = some m → DE X e m) : ∀ {es : List Expr} {ms : List EM}, cL f es = some ms → DL X es (mL ms) ∧ es.all (fun e => !isStar e) = true ∧ ms.length = es.length
  | [], ms, h => by cases h; exact ⟨dl_nil, rfl, rfl⟩
  | e :: es, ms, h => by
    unfold cL at h
    split at h
    · cases h
    · rename_i st
      have st' : isStar e = false := by simpa using st
      split at h
      · rename_i m hm
        split at h
        · rename_i ms' hms
          cases h
          obtain ⟨h1, h2, h3⟩ := cL_ok hf hms
          exact ⟨dl_cons (hf e m hm) h1 st', by rw [List.all_cons, h2, st']; rfl, by rw [List.length_cons, List.length_cons, h3]⟩
        · cases h
      · cases h
def cK (f : Expr → Option EM) : List Keyword → Option (List EM)
  | [] => some []
  | k :: ks => if k.arg.isSome then match f k.value with
    | some m => match cK f ks with
      | some ms => some (m :: ms)
      | none => none
    | none => none
    else none
theorem cK_ok {f : Expr → Option EM} (hf : ∀ e m, f e = some m → DE X e m) : ∀ {ks : List Keyword} {ms : List EM}, cK f ks = some ms → DK X ks (mL ms) ∧ ks.all (fun k => k.arg.isSome) = true ∧ ms.length = (ks.filterMap (·.arg)).length
  | [], ms, h => by cases h; exact ⟨dk_nil, rfl, rfl⟩
  | k :: ks, ms, h => by
    unfold cK at h
    split at h
    · rename_i ha
      split at h
      · rename_i m hm
        split at h
        · rename_i ms' hms
          cases h
          obtain ⟨h1, h2, h3⟩ := cK_ok hf hms
          obtain ⟨nm, v, kp⟩ := k
          obtain ⟨y, hy⟩ := Option.isSome_iff_exists.mp ha
          have hy' : nm = some y := hy
          refine ⟨dk_cons (hf _ m hm) h1, by rw [List.all_cons, h2, ha]; rfl, ?_⟩
          rw [List.filterMap_cons]
          simp only [hy', List.length_cons, h3]
        · cases h
      · cases h
    · cases h
def cPs (f : Expr → Option EM) (g : Expr → Option EM) : List (Option Expr) → List Expr → Option (List (EM × EM))
  | [], [] => some []
  | some k :: ks, v :: vs => match f k with
    | some mk => match g v with
      | some mv => match cPs f g ks vs with
        | some ps => some ((mk, mv) :: ps)
        | none => none
      | none => none
    | none => none
  | _, _ => none
theorem cPs_ok {f g : Expr → Option EM} {pos : Pos} (hf : ∀ e m, f e = some m → DE X e m) (hg : ∀ e m, g e = some m → DE X e m) : ∀ {ks : List (Option Expr)} {vs : List Expr} {ps : List (EM × EM)}, cPs f g ks vs = some ps → DPs X pos ks vs ps ∧ ks.all (·.isSome) = true ∧ ks.length = vs.length
  | [], [], ps, h => by cases h; exact ⟨dps_nil, rfl, rfl⟩
  | some k :: ks, v :: vs, ps, h => by
    unfold cPs at h
    split at h
    · rename_i mk hk
      split at h
      · rename_i mv hv
        split at h
        · rename_i ps' hps
          cases h
          obtain ⟨h1, h2, h3⟩ := cPs_ok hf hg hps
          exact ⟨dps_cons (hf _ _ hk) (hg _ _ hv) h1, by rw [List.all_cons, h2]; rfl, by rw [List.length_cons, List.length_cons, h3]⟩
        · cases h
      · cases h
    · cases h
  | [], _ :: _, ps, h => by cases h
  | none :: _, _, ps, h => by cases h
  | some _ :: _, [], ps, h => by cases h
def cBool (f : Expr → Option EM) (op : BoolOp) : List Expr → Option EM
  | [] => none
  | [a] => f a
  | a :: b :: r => match f a with
    | some m => match cBool f op (b :: r) with
      | some n => some (match op with | .And => mAnd m n | .Or => mOr m n)
      | none => none
    | none => none
theorem cBool_ok {f : Expr → Option EM} {op : BoolOp} {pos : Pos} (hf : ∀ e m, f e = some m → DE X e m) : ∀ {vs : List Expr} {m : EM}, cBool f op vs = some m → DE X (.BoolOp op vs pos) m
  | [], m, h => by cases h
  | [a], m, h => de_and1 (hf a m h)
  | a :: b :: r, m, h => by
    unfold cBool at h
    split at h
    · rename_i m1 h1
      split at h
      · rename_i n hn
        cases h
        cases op with
        | And => exact de_and (hf a m1 h1) (cBool_ok hf hn)
        | Or => exact de_or (hf a m1 h1) (cBool_ok hf hn)
      · cases h
    · cases h
def cBoolT (f : Expr → Option TM) (op : BoolOp) : List Expr → Option TM
  | [] => none
  | [a] => f a
  | a :: b :: r => match f a with
    | some m => match cBoolT f op (b :: r) with
      | some n => some (match op with | .And => tmAnd m n | .Or => tmOr m n)
      | none => none
    | none => none
theorem cBoolT_ok {f : Expr → Option TM} {op : BoolOp} {pos : Pos} (hf : ∀ e m, f e = some m → DT X e m) : ∀ {vs : List Expr} {m : TM}, cBoolT f op vs = some m → DW X (.BoolOp op vs pos) m
  | [], m, h => by cases h
  | [a], m, h => by
    cases op with
    | And => exact dw_and1 (hf a m h)
    | Or => exact dw_or1 (hf a m h)
  | a :: b :: r, m, h => by
    unfold cBoolT at h
    split at h
    · rename_i m1 h1
      split at h
      · rename_i n hn
        cases h
        cases op with
        | And => exact dw_and (hf a m1 h1) (cBoolT_ok hf hn)
        | Or => exact dw_or (hf a m1 h1) (cBoolT_ok hf hn)
      · cases h
    · cases h
def cP (f : Expr → Option EM) : Option Expr → Option PM
  | none => some pmNone
  | some e => (f e).map pmSome
theorem cP_ok {f : Expr → Option EM} (hf : ∀ e m, f e = some m → DE X e m) : ∀ {o : Option Expr} {m : PM}, cP f o = some m → DP X o m
  | none, m, h => by cases h; exact dp_none
  | some e, m, h => by
    cases z : f e with
    | none => simp [cP, z] at h
    | some m' => simp [cP, z] at h; subst h; exact dp_some (hf e m' z)
/-- names -/
def tyOf (x : Str) : Option String :=
  if x = "tuple" then some "tuple" else if x = "int" then some "int" else if x = "bool" then some "bool" else if x = "str" then some "str" else if x = "list" then some "list" else if x = "dict" then some "dict" else none
theorem tyOf_boot {x : Str} {n : String} (h : tyOf x = some n) : bootBuiltins x = some (.type n) ∧ x ∈ blts ∧ x ≠ "__name__" := by
  unfold tyOf at h
  repeat' split at h
  all_goals first
    | cases h; done
    | (rename_i e; cases h; subst e; exact ⟨by decide +kernel, by decide +kernel, by decide +kernel⟩)
def cName (C : Ctx) (x : Str) : Option EM :=
  if plainName x then
    if isVis C.sc x then (isIdx C.N x).map mVar
    else if isGl C.sc x then match C.consts x with
      | some d => some (mC d)
      | none => if (C.fns x).isSome then some (mC (.glob x)) else (tyOf x).map fun n => mC (.ty n)
    else none
  else none
theorem cName_ok (g : Good X C) {x : Str} {p : Pos} {m : EM} (h : cName C x = some m) : DE X (.Name x p) m := by
  unfold cName at h
  split at h
  · rename_i hp
    have h1 : (x == ("__debug__" : Str)) = false := by unfold plainName at hp; simp only [Bool.and_eq_true, Bool.not_eq_true'] at hp; exact hp.1
    have h2 : (x == ("__classdict__" : Str)) = false := by unfold plainName at hp; simp only [Bool.and_eq_true, Bool.not_eq_true'] at hp; exact hp.2
    split at h
    · rename_i hv
      cases z : isIdx C.N x with
      | none => simp [z] at h
      | some i =>
        simp [z] at h; subst h
        exact de_var (by rw [g.hN]; exact isIdx_get z) (by rw [g.sc]; exact isVis_vis hv) h1 h2
    · split at h
      · rename_i hg
        split at h
        · rename_i d hd
          cases h
          obtain ⟨v, u, hm, r, rd⟩ := g.const x d hd
          exact de_glob (g.gl hg) hm r rd h1
        · split at h
          · rename_i hF
            cases h
            obtain ⟨F, hF⟩ := Option.isSome_iff_exists.mp hF
            obtain ⟨k, f, fd, hm, hk, G, hr, hb⟩ := g.fn x F hF
            exact de_glob (v := .ref f) (g.gl hg) hm rfl (fun _ _ _ => .glob hm) h1
          · cases z : tyOf x with
            | none => simp [z] at h
            | some n =>
              simp [z] at h; subst h
              obtain ⟨b1, b2, b3⟩ := tyOf_boot z
              exact de_ty (g.gl hg) (g.blt x b2) b1 b3 h1
      · cases h
  · cases h
/-- calls of builtins by name -/
def cBltB (x : Str) (ms : List EM) : Option EM :=
  if x = "sorted" then some (mCall sortD ms) else if x = "max" then some (mCall maxD ms) else if x = "min" then some (mCall minD ms) else if x = "range" then some (mCall rangeD ms) else if x = "dict" then some (mCall dictD ms) else none
def cBlt (mt : Bool) (x : Str) (ms : List EM) : Option EM :=
  if x = "len" then some (mCall lenD ms) else if x = "repr" then some (mCall reprD ms) else if x = "isinstance" then some (mCall isiD ms) else if x = "int" then some (mCall intD ms)
  else if x = "tuple" then some (mCall tupleD ms) else if x = "list" then some (mCall (listD mt) ms) else if x = "abs" then some (mCall absD ms)
  else cBltB x ms
set_option maxHeartbeats 2000000 in
theorem cBltB_ok (g : Good X C) {x : Str} {p pos : Pos} {e : Expr} {es : List Expr} {ms : List EM} {m : EM} (hg : isGl C.sc x = true) (h : cBltB x ms = some m) (ha : DL X (e :: es) (mL ms)) (st : (e :: es).all (fun e => !isStar e) = true) : DE X (.Call (.Name x p) (e :: es) [] pos) m := by
  have hu := g.units
  have hgl := g.gl hg
  unfold cBltB at h
  split at h
  · rename_i q; cases h; subst q
    exact de_callB (cr_sortD (by omega)) snd_sort hgl (g.blt _ (by decide +kernel)) (by decide +kernel) (by decide +kernel) (by decide +kernel) ha st
  split at h
  · rename_i q; cases h; subst q
    exact de_callB (call_max2 g.calm) snd_max hgl (g.blt _ (by decide +kernel)) (by decide +kernel) (by decide +kernel) (by decide +kernel) ha st
  split at h
  · rename_i q; cases h; subst q
    exact de_callB (call_min2 g.calm) snd_min hgl (g.blt _ (by decide +kernel)) (by decide +kernel) (by decide +kernel) (by decide +kernel) ha st
  split at h
  · rename_i q; cases h; subst q
    exact de_callT call_rng snd_range hgl (g.blt _ (by decide +kernel)) (by decide +kernel) (by decide +kernel) (by decide +kernel) ha st
  split at h
  · rename_i q; cases h; subst q
    exact de_callT call_dictD snd_dictC hgl (g.blt _ (by decide +kernel)) (by decide +kernel) (by decide +kernel) (by decide +kernel) ha st
  · cases h
set_option maxHeartbeats 2000000 in
theorem cBlt_ok (g : Good X C) {mt : Bool} {x : Str} {p pos : Pos} {e : Expr} {es : List Expr} {ms : List EM} {m : EM} (hg : isGl C.sc x = true) (h : cBlt mt x ms = some m) (ha : DL X (e :: es) (mL ms)) (st : (e :: es).all (fun e => !isStar e) = true) : DE X (.Call (.Name x p) (e :: es) [] pos) m := by
  have hu := g.units
  have hgl := g.gl hg
  unfold cBlt at h
  split at h
  · rename_i q; cases h; subst q
    exact de_callB call_len snd_len hgl (g.blt _ (by decide +kernel)) PySem.boot_len (by decide +kernel) (by decide +kernel) ha st
  split at h
  · rename_i q; cases h; subst q
    exact de_callB (call_reprE g.free (by omega)) snd_repr hgl (g.blt _ (by decide +kernel)) (by decide +kernel) (by decide +kernel) (by decide +kernel) ha st
  split at h
  · rename_i q; cases h; subst q
    exact de_callB call_isi snd_isi hgl (g.blt _ (by decide +kernel)) (by decide +kernel) (by decide +kernel) (by decide +kernel) ha st
  split at h
  · rename_i q; cases h; subst q
    exact de_callT call_int1 snd_int hgl (g.blt _ (by decide +kernel)) (by decide +kernel) (by decide +kernel) (by decide +kernel) ha st
  split at h
  · rename_i q; cases h; subst q
    exact de_callT call_tuple_of snd_tuple hgl (g.blt _ (by decide +kernel)) (by decide +kernel) (by decide +kernel) (by decide +kernel) ha st
  split at h
  · rename_i q; cases h; subst q
    exact de_callT call_list_of snd_list hgl (g.blt _ (by decide +kernel)) (by decide +kernel) (by decide +kernel) (by decide +kernel) ha st
  split at h
  · rename_i q; cases h; subst q
    exact de_callB call_abs snd_abs hgl (g.blt _ (by decide +kernel)) (by decide +kernel) (by decide +kernel) (by decide +kernel) ha st
  · exact cBltB_ok g hg h ha st
def cCall (fe : FE) (C : Ctx) (mt : Bool) (x : Str) (args : List Expr) (kws : List Keyword) : Option EM :=
  if plainName x && isGl C.sc x then
    match C.fns x with
    | some F => match cL (fe C false) args with
      | some ms => match cK (fe C false) kws with
        | some mk => if (args.length, kws.filterMap (·.arg)) ∈ C.pats x then some (mFn F (permOf F.ps args.length (kws.filterMap (·.arg))) ms mk) else none
        | none => none
      | none => none
    | none => match args, kws with
      | e :: es, [] => match cL (fe C false) (e :: es) with
        | some ms => cBlt mt x ms
        | none => none
      | _, _ => none
  else none
theorem cCall_ok {fe : FE} (hf : SoundE fe) (g : Good X C) {mt : Bool} {x : Str} {args : List Expr} {kws : List Keyword} {p pos : Pos} {m : EM} (h : cCall fe C mt x args kws = some m) : DE X (.Call (.Name x p) args kws pos) m := by
  have hfe : ∀ e m, fe C false e = some m → DE X e m := fun e m q => hf C false e m q X g
  unfold cCall at h
  split at h
  · rename_i hp
    obtain ⟨hp1, hgl⟩ := Bool.and_eq_true_iff.mp hp
    have h1 : (x == ("__debug__" : Str)) = false := by unfold plainName at hp1; simp only [Bool.and_eq_true, Bool.not_eq_true'] at hp1; exact hp1.1
    split at h
    · rename_i F hF
      split at h
      · rename_i ms hms
        split at h
        · rename_i mk hmk
          split at h
          · rename_i hpat
            cases h
            obtain ⟨k, f, fd, hm, hk, G, hr, hb⟩ := g.fn x F hF
            obtain ⟨a1, a2, a3⟩ := cL_ok hfe hms
            obtain ⟨b1, b2, b3⟩ := cK_ok hfe hmk
            exact de_fn G g.free (hr.mono (Nat.le_add_right _ _)) (g.gl hgl) hm hk (hb _ _ hpat) a1 b1 a3 b3 h1 a2 b2
          · cases h
        · cases h
      · cases h
    · split at h
      · rename_i e es
        split at h
        · rename_i ms hms
          obtain ⟨a1, a2, a3⟩ := cL_ok hfe hms
          exact cBlt_ok g hgl h a1 a2
        · cases h
      · cases h
  · cases h
theorem de_index {X : Cx} {C : Ctx} (g : Good X C) {o e : Expr} {mo a : EM} {apos pos : Pos} (ho : DE X o mo) (ha : DL X [e] (mL [a])) (st : [e].all (fun e => !isStar e) = true) (nc : isCall o = false) (line : (apos.endLine == pos.line) = true) : DE X (.Call (.Attribute o "index" apos) [e] [] pos) (mIndex mo a) := fun Wx tk =>
  let ⟨_, p0, s0⟩ := ho Wx tk
  let ⟨_, p1, s1⟩ := ha Wx tk
  ⟨_, pe_bm PySem.F.plainAttrs_list PySem.F.slot_list_index PySem.F.type_list_index (mt_indexD (by have := g.units; omega)) p0 p1 (base_is nc) (by
      rw [star_all st]
      rfl) line (star_cons (by simpa using st)) rfl, snd_index s0 s1⟩
/-- methods of lists -/
def cM0 (o : EM) (name : Str) : Option EM := if name = "pop" then some (mMeth popD o []) else none
def cM1 (o : EM) (name : Str) (ms : List EM) : Option EM := if name = "get" then some (mGet o ms) else if name = "append" then some (mMeth appendD o ms) else if name = "pop" then some (mMeth popAtD o ms) else if name = "extend" then some (mMeth extendD o ms) else if name = "insert" then some (mMeth insertD o ms) else if name = "index" then (match ms with | [a] => some (mIndex o a) | _ => none) else none
def cMeth (o : EM) (name : Str) : List EM → Option EM
  | [] => cM0 o name
  | m :: ms => cM1 o name (m :: ms)
theorem cMeth_ok (g : Good X C) {o : Expr} {mo : EM} {name : Str} {args : List Expr} {ms : List EM} {m : EM} {apos pos : Pos} (h : cMeth mo name ms = some m) (ho : DE X o mo) (nc : isCall o = false) (line : (apos.endLine == pos.line) = true)
    (ha : DL X args (mL ms)) (st : args.all (fun e => !isStar e) = true) (hl : ms.length = args.length) (few : args.length < 30) : DE X (.Call (.Attribute o name apos) args [] pos) m := by
  cases args with
  | nil =>
    have e : ms = [] := List.length_eq_zero_iff.mp hl
    subst e
    have h' : cM0 mo name = some m := h
    unfold cM0 at h'
    split at h'
    · rename_i q; cases h'; subst q
      exact de_meth0 PySem.F.slot_list_pop PySem.F.type_list_pop mt_pop snd_pop ho nc line
    · cases h'
  | cons e es =>
    cases ms with
    | nil => cases hl
    | cons a as =>
      have h' : cM1 mo name (a :: as) = some m := h
      unfold cM1 at h'
      split at h'
      · rename_i q; cases h'; subst q
        exact de_get (by have := g.units; omega) ho ha st nc few line
      split at h'
      · rename_i q; cases h'; subst q
        exact de_meth PySem.F.slot_list_append PySem.F.type_list_append mt_append snd_append ho ha st nc few line
      split at h'
      · rename_i q; cases h'; subst q
        exact de_meth PySem.F.slot_list_pop PySem.F.type_list_pop mt_popAt snd_popAt ho ha st nc few line
      split at h'
      · rename_i q; cases h'; subst q
        exact de_meth PySem.F.slot_list_extend PySem.F.type_list_extend mt_extend snd_extend ho ha st nc few line
      split at h'
      · rename_i q; cases h'; subst q
        exact de_meth PySem.F.slot_list_insert PySem.F.type_list_insert mt_insert snd_insert ho ha st nc few line
      split at h'
      · rename_i q; subst q
        split at h'
        · rename_i z
          cases z
          cases h'
          have e1 : es = [] := List.length_eq_zero_iff.mp (by simpa using hl.symm)
          subst e1
          exact de_index g ho ha st nc line
        · cases h'
      · cases h'

/-! ### targets, what is walked -/
mutual
def cTg (C : Ctx) : Nat → Expr → Option Tg
  | _, .Name x _ => if C.tg x then (isIdx C.N x).map Tg.name else none
  | n + 1, .Tuple es _ _ => (cTgs C n es).map Tg.tup
  | _, _ => none
def cTgs (C : Ctx) : Nat → List Expr → Option Tgs
  | _, [] => some .nil
  | n, e :: es => if isStar e then none else match cTg C n e with
    | some t => match cTgs C n es with
      | some l => some (.cons t l)
      | none => none
    | none => none
end
end
end DX

/-! DxGx: all(..), any(..) of a generator expression whose element may call defs. -/
set_option linter.all false
set_option maxRecDepth 100000
set_option Elab.async false
namespace DX
open PySem PySem.Spec PyProof.Rows L2 GenW

/-- the environment of a generator's frame that is laid in s -/
abbrev gEnv (X : Cx) (scope : Scope) (code : Value) (s : Shared) : Env := genEnv scope (cloFrom X.env.cells scope.names []) s.heap.objs.size code builtinsNs X.env
/-- the context in this frame; fp: the walked iterator's own objects -/
def gx (X : Cx) (scope : Scope) (code : Value) (s : Shared) (H : Hp) (fp : List Addr) (pn : List (Addr × Obj)) : Cx where
  prog := X.prog
  w := X.w
  K := X.K
  mg := X.mg
  base := X.base
  A := X.A.in1.in1.deeper (gEnv X scope code s)
  N := X.N
  s_0 := s
  H_0 := H
  env := gEnv X scope code s
  outer := X.stack
  stack := gEnv X scope code s :: X.stack
  ex := fp
  fn := fun _ => false
  calm := true
  pn := pn
  xe := fun _ _ => False
/-- a generator expression's scope beside its def's scope sd -/
structure GxOk (N : List Str) (sd scope : Scope) (vs : List Nat) : Prop where
  kind : scope.kind = .function
  co : scope.isCoroutine = false
  nocell : ∀ y ∈ scope.names, y.2 ≠ .cell
  dot : scope.names.lookup (".0" : Str) = some NameKind.local
  free : ∀ y ∈ scope.names, y.2 = .free → sd.names.lookup y.1 = some .cell
  own : ∀ i x, N[i]? = some x → scope.names.lookup x = some .local → i ∈ vs

section
variable {X : Cx} {pins pn : List (Addr × Obj)} {σ : L2.St} {H : Hp} {s : Shared} {scope : Scope} {vs : List Nat} {fp : List Addr} {code : Value}
theorem GxOk.has (ok : GxOk X.N X.env.scope scope vs) (I : Inv X pins σ H s) : ∀ y ∈ scope.names, y.2 = .free → ∃ c, X.env.cells.lookup y.1 = some c :=
  fun y hy e => I.ok.has _ (.inl (ok.free y hy e))
theorem gx_start (ok : GxOk X.N X.env.scope scope vs) (hc : X.calm = true) (I : Inv X pins σ H s) (hfp : ∀ b ∈ fp, FpOk X pins H b ∧ b < s.heap.objs.size) {m : Str → Option Value} {h' : Heap} {g' : Array GenState} {t' : Nat}
    (hn : h'.Ns s.heap.objs.size m) (hk : ∀ b o, s.heap.get? b = some o → h'.get? b = some o) (hg : AllBare g') (hpn : ∀ p ∈ pn, h'.get? p.1 = some p.2 ∧ s.heap.objs.size < p.1 ∧ ∀ v, p.2.data ≠ .cell v) :
    Inv (gx X scope code s H fp pn) [] (wipe σ vs) H { s with heap := h', gens := g', toks := t' } := by
  have hfree := ok.has I
  have cm : ∀ {y c}, (cloFrom X.env.cells scope.names []).lookup y = some c → X.env.cells.lookup y = some c := fun e => NdefX.clo_cm hfree e
  have e0 := I.env0
  have young : ∀ b, s.heap.objs.size ≤ b → H b = none ∧ b ∉ frs X.stack := fun b hb => ⟨I.hok.fresh hb, fun hm => by
    obtain ⟨_, o, ho, _⟩ := I.stack.mem hm
    exact absurd (Nat.lt_of_lt_of_le (Heap.lt_size ho) hb) (Nat.lt_irrefl _)⟩
  have cellLt : ∀ {y c}, X.env.cells.lookup y = some c → c < s.heap.objs.size := fun {y c} e => by
    obtain ⟨v, q⟩ := I.cell y c e
    exact q.lt
  have stkNo : ∀ b ∈ fp, b ∉ frs X.stack := fun b hb hm => by
    obtain ⟨f0, f1, f2, _⟩ := (hfp b hb).1
    rcases List.mem_cons.mp (I.stkSub b hm) with z | z
    · exact f1 z
    · exact f2 z
  refine ⟨⟨I.ok.mod, ok.kind, I.ok.glob, rfl, Nat.le_refl _, fun x y c h1 h2 => I.ok.inj x y c (cm h1) (cm h2), fun x hx => ?_, fun x c h => Bool.noConfusion (show false = true from h), fun _ => I.ok.hd hc, Around.frames_deeper (A := X.A.in1.in1) I.ok.frames, .inr ⟨rfl, rfl⟩,
    fun b hb => ⟨Nat.ne_of_lt (hfp b hb).2, fun x c e z => (hfp b hb).1.2.2.2.2.1 x c (cm e) z⟩, e0.bs, e0.bsz, fun b o e hb => ?_, fun b hb => stkNo b hb, e0.funs, e0.frf⟩,
    rfl, hg, Un.kept hk, ⟨m, hn, fun i x v h1 h2 h3 => ?_⟩, fun x c h => ?_, (young _ (Nat.le_refl _)).1, fun x c h => I.freeC x c (cm h), fun p hp => ?_, I.hok.kept hk, by rw [wipe_length]; exact I.len⟩
  · rcases hx with hx | hx
    · exact absurd rfl (ok.nocell _ (PySem.mem_of_lookup hx))
    · obtain ⟨c, hc'⟩ := hfree _ (PySem.mem_of_lookup hx) rfl
      exact ⟨c, NdefX.clo_has hfree (PySem.mem_of_lookup hx) hc'⟩
  · obtain ⟨f0, f1, f2, f3, _⟩ := (hfp b hb).1
    rcases f3 with z | z
    · exact I.ok.noex b o e z
    · exact absurd (Nat.lt_of_lt_of_le (Heap.lt_size e) (Nat.le_trans I.ok.bsz z)) (Nat.lt_irrefl _)
  · obtain ⟨w1, w2⟩ := wipe_some h2
    rcases h3 with h3 | h3 | h3
    · exact absurd (ok.own i x h1 h3) w2
    · exact absurd rfl (ok.nocell _ (PySem.mem_of_lookup h3))
    · have hx := PySem.mem_of_lookup h3
      have hcx := ok.free _ hx rfl
      obtain ⟨m0, hn0, look⟩ := I.loc
      obtain ⟨u, ru, lk⟩ := look i x v h1 w1 (.inr (.inl hcx))
      refine ⟨u, ru, .inr ⟨.inr h3, ?_⟩⟩
      rcases lk with ⟨k1, _⟩ | ⟨_, c, e1, e2⟩
      · have k1 : X.env.scope.names.lookup x = some .local := k1
        rw [hcx] at k1; cases k1
      · obtain ⟨o, ho, hd⟩ := e2
        exact ⟨c, NdefX.clo_has hfree hx e1, o, hk c o ho, hd⟩
  · obtain ⟨v, o, ho, hd⟩ := I.cell x c (cm h)
    exact ⟨v, o, hk c o ho, hd⟩
  · have hp : p ∈ pn := by
      have hp : p ∈ pn ++ [] := hp
      simpa using hp
    obtain ⟨p1, p2, p3⟩ := hpn p hp
    exact ⟨p1, (young _ (Nat.le_of_lt p2)).1, Nat.ne_of_gt p2, (young _ (Nat.le_of_lt p2)).2, p3⟩
/-- the same heap, other generators -/
theorem inv_same {X : Cx} {pins : List (Addr × Obj)} {σ : L2.St} {H : Hp} {s s' : Shared} (I : Inv X pins σ H s) (hh : s'.heap = s.heap) (ho : s'.os = s.os) (hb : AllBare s'.gens) : Inv X pins σ H s' :=
  ⟨I.ok, ho.trans I.os, hb, by rw [hh]; exact I.base, by rw [hh]; exact I.loc, by rw [hh]; exact I.cell, I.free, I.freeC, by rw [hh]; exact I.pin, by rw [hh]; exact I.hok, I.len⟩
/-- what each turn of all (b = true), any (b = false) wants -/
def Turns (b : Bool) (J : It) (g : TG) (te : TE) (σ : L2.St) (vs : List Nat) (Q : VK) (Wi : Nat → Nat → Hp → Prop) : Prop := ∀ i r Hc, Wi i r Hc →
  (J.stop i Hc ∧ Q (.bl b) Hc) ∨ (J.go i Hc ∧ ∃ r', r = r' + 1 ∧ ∀ v H3, J.yld i Hc v H3 → g v (wipe σ vs) H3 fun σ2 H4 => wipe σ2 vs = wipe σ vs ∧
    te σ2 H4 fun y H5 => ∃ k, y = .bl k ∧ if k = b then Wi (i + 1) r' H5 else Q (.bl (!b)) H5)
/-- ahead of turn i -/
structure GAt (Y : Cx) (fp : List Addr) (σ : L2.St) (tn : Nat → Heap → Prop) (i : Nat) (Hc : Hp) (s : Shared) : Prop where
  inv : Inv Y [] σ Hc s
  tn : tn i s.heap
  fp : ∀ b ∈ fp, Hc b = none
def aaY (b : Bool) (Y : Cx) (fp : List Addr) (σ : L2.St) (tn : Nat → Heap → Prop) (Q : VK) (Wi : Nat → Nat → Hp → Prop) : Protocol := fun n s₀ v s kap =>
  ∃ k i Hc, v = Value.bool k ∧ GAt Y fp σ tn i Hc s ∧ (if k = b then Wi i n Hc else Q (.bl (!b)) Hc) ∧ (k = b → ∀ s', s'.heap = s.heap → s'.os = s.os → AllBare s'.gens → kap (.send .none) s')
def aaF (b : Bool) (Y : Cx) (σ : L2.St) (Q : VK) (s : Shared) : Prop := ∃ Hc, Inv Y [] σ Hc s ∧ Q (.bl b) Hc
abbrev aaR (b : Bool) (Y : Cx) (σ : L2.St) (Q : VK) : GenEnd := fun n s₀ r s => ((r = .ok (.ret .none) ∨ r = .ok .next) ∧ aaF b Y σ Q s) ∨ ∃ e, r = .error e ∧ False
theorem seg_aa {b : Bool} {elt tg iter : Expr} {gpos : Pos} {it : Addr} {tn : Nat → Heap → Prop} {J : It} {g : TG} {te : TE} {Q : VK} {Wi : Nat → Nat → Hp → Prop} (co : scope.isCoroutine = false) (hh : X.A.handled = none)
    (hpn : ∀ p ∈ pn, p.1 ∉ fp) (T : Turn X.prog X.w X.K tg J fp it tn) (hg : PG (gx X scope code s H fp pn) tg g) (he : PE (gx X scope code s H fp pn) elt te) (turns : Turns b J g te σ vs Q Wi) :
    ∀ (n i : Nat) (Hc : Hp) (s₀ s' : Shared), Wi i n Hc → GAt (gx X scope code s H fp pn) fp (wipe σ vs) tn i Hc s' →
      Seg (model X.prog X.w) X.A.in1.in1 (aaR b (gx X scope code s H fp pn) (wipe σ vs) Q) (aaY b (gx X scope code s H fp pn) fp (wipe σ vs) tn Q Wi) n s₀ (.compLoop (.GeneratorExp elt [⟨tg, iter, [], 0⟩] scope gpos) 0 (.ref it) .none (gEnv X scope code s))
        ((model X.prog X.w).den (.compLoop (.GeneratorExp elt [⟨tg, iter, [], 0⟩] scope gpos) 0 (.ref it) .none (gEnv X scope code s))) [] s' := by
  have fpo : ∀ {σ' : L2.St} {H' : Hp} {s' : Shared}, Inv (gx X scope code s H fp pn) [] σ' H' s' → (∀ b ∈ fp, H' b = none) → ∀ b ∈ fp, FpOk (gx X scope code s H fp pn) [] H' b := fun {σ' H' s'} I' hn b hb =>
    ⟨hn b hb, (I'.ok.exf b hb).1, I'.ok.exfs b hb, .inl hb, fun x c e => (I'.ok.exf b hb).2 x c e, fun p hp z => by
      have hp : p ∈ pn ++ [] := hp
      exact hpn p (by simpa using hp) (by rw [z]; exact hb)⟩
  intro n
  induction n with
  | zero =>
    intro i Hc s₀ s' w a
    show Seg _ _ _ _ _ s₀ _ ((compTurn (.GeneratorExp elt [⟨tg, iter, [], 0⟩] scope gpos) 0 (.ref it) .none (gEnv X scope code s)).onRaise (leaving (gEnv X scope code s))) [] s'
    rw [compTurn_gen, Sem.onRaise_eq_wrap]
    refine seg_bind_wrap (wpAny_standAt ?_)
    rcases turns i 0 Hc w with ⟨st, q⟩ | ⟨_, r', e, _⟩
    · refine seg_bind_wrap (thnF (T.done (gx X scope code s H fp pn) rfl rfl rfl rfl i [] s' _ Hc (fun _ _ => False) a.inv (fpo a.inv a.fp) a.tn st) fun r s1 ⟨hr, I1⟩ => ?_)
      subst hr
      exact seg_end (.ok .next) (.inl ⟨.inr rfl, Hc, I1, q⟩)
    · cases e
  | succ n ih =>
    intro i Hc s₀ s' w a
    show Seg _ _ _ _ _ s₀ _ ((compTurn (.GeneratorExp elt [⟨tg, iter, [], 0⟩] scope gpos) 0 (.ref it) .none (gEnv X scope code s)).onRaise (leaving (gEnv X scope code s))) [] s'
    rw [compTurn_gen, Sem.onRaise_eq_wrap]
    refine seg_bind_wrap (wpAny_standAt ?_)
    rcases turns i (n + 1) Hc w with ⟨st, q⟩ | ⟨go, r', e, step⟩
    · refine seg_bind_wrap (thnF (T.done (gx X scope code s H fp pn) rfl rfl rfl rfl i [] s' _ Hc (fun _ _ => False) a.inv (fpo a.inv a.fp) a.tn st) fun r s1 ⟨hr, I1⟩ => ?_)
      subst hr
      exact seg_end (.ok .next) (.inl ⟨.inr rfl, Hc, I1, q⟩)
    · obtain rfl : r' = n := by omega
      refine seg_bind_wrap (thnF (T.item (gx X scope code s H fp pn) rfl rfl rfl rfl i [] s' _ Hc (fun _ _ => False) a.inv (fpo a.inv a.fp) a.tn go) fun r s1 ⟨u, hr, h1⟩ => ?_)
      subst hr
      refine seg_bind_wrap (thnF h1 fun _ s2 ⟨v, H3, I2, rv, y, tn2, n2⟩ => ?_)
      have I2' := I2.pinned (fpo I2 n2) (T.obj _ _ tn2)
      refine seg_bind_wrap (thnF (hg.run _ s2 _ H3 v u _ I2' rv (step v H3 y)) fun _ s3 ⟨σ3, H4, I3, hw3, q3⟩ => ?_)
      refine seg_bind_wrap (wpAny_of_eq (a := true) (by first | rfl | simp only [List.forIn_nil]) ?_)
      simp only [if_true]
      have hy : ∀ v, yieldOut (gEnv X scope code s) v = yieldValue v := fun v => by
        have co' : (gEnv X scope code s).scope.isCoroutine = false := co
        simp only [yieldOut, co', Bool.false_eq_true, if_false]
      simp only [hy]
      rw [Sem.bind_eq_wrap', Sem.bind_eq_wrap', Sem.wrap_wrap, Sem.wrap_wrap]
      refine seg_wrap (thnF (he.run _ s3 σ3 H4 _ I3 q3) fun yv s4 ⟨x, H5, I4, rx, k, ex, q4⟩ => ?_)
      subst ex
      obtain rfl : yv = Value.bool k := rx
      have a4 : GAt (gx X scope code s H fp pn) fp (wipe σ vs) tn (i + 1) H5 s4 := by
        have pin' : ∀ b ∈ fp, ∀ o, s2.heap.get? b = some o → s4.heap.get? b = some o ∧ H5 b = none := fun b hb o e =>
          let z := I4.pin (b, o) (List.mem_append_right _ (List.mem_append_right _ (mem_pinsAt hb e)))
          ⟨z.1, z.2.1⟩
        have hl : (wipe σ vs).length = σ3.length := by rw [← hw3, wipe_length]
        refine ⟨(I4.unpinned (pins := [])).weak hl (fun j v e => ?_), T.keep _ _ _ tn2 fun b hb o e => (pin' b hb o e).1, fun b hb => ?_⟩
        · rw [← hw3] at e
          exact (wipe_some e).1
        · obtain ⟨o, e, _⟩ := T.obj _ _ tn2 b hb
          exact (pin' b hb o e).2
      refine seg_at (seg_yield rfl rfl rfl ⟨k, i + 1, H5, rfl, a4, q4, fun hk s'' e1 e2 e3 => ?_⟩)
      refine seg_again rfl ?_
      rw [if_pos hk] at q4
      exact ih (i + 1) H5 s'' s'' q4 ⟨inv_same a4.inv e1 e2 e3, by rw [e1]; exact a4.tn, a4.fp⟩
/-- the frame's first code -/
theorem seg_aa0 {elt tg iter : Expr} {gpos : Pos} {it : Addr} {tn : Nat → Heap → Prop} {R : GenEnd} {Y : Protocol} {n : Nat} {s₀ s' : Shared} (self : ∀ (A : Around) (s : Shared) (Q : Value → Shared → Prop) (E : Value → Shared → Prop), tn 0 s.heap → Q (.ref it) s → wpAny (model X.prog X.w) A (pyIter (.ref it)) Q E s)
    (st : tn 0 s'.heap) (loop : Seg (model X.prog X.w) X.A.in1.in1 R Y n s₀ (.compLoop (.GeneratorExp elt [⟨tg, iter, [], 0⟩] scope gpos) 0 (.ref it) .none (gEnv X scope code s))
        ((model X.prog X.w).den (.compLoop (.GeneratorExp elt [⟨tg, iter, [], 0⟩] scope gpos) 0 (.ref it) .none (gEnv X scope code s))) [] s') :
    Seg (model X.prog X.w) X.A.in1.in1 R Y n s₀ (.compStart (.GeneratorExp elt [⟨tg, iter, [], 0⟩] scope gpos) 0 (.ref it) .none (gEnv X scope code s))
        ((model X.prog X.w).den (.compStart (.GeneratorExp elt [⟨tg, iter, [], 0⟩] scope gpos) 0 (.ref it) .none (gEnv X scope code s))) [] s' := by
  show Seg _ _ _ _ _ s₀ _ ((compStart (.GeneratorExp elt [⟨tg, iter, [], 0⟩] scope gpos) 0 (.ref it) .none (gEnv X scope code s)).onRaise (leaving (gEnv X scope code s))) [] s'
  unfold compStart
  rw [Sem.onRaise_eq_wrap]
  refine seg_bind_wrap (wpAny_askSetting ?_)
  split
  · exact seg_again rfl loop
  · first
      | exact seg_bind_wrap (wpAny_rule (seg_bind_wrap (wpAny_standAt (seg_bind_wrap (self _ s' _ _ st (seg_again rfl loop))))))
      | (refine seg_bind_wrap (wpAny_rule ?_); exact seg_bind_wrap (wpAny_standAt (seg_bind_wrap (self _ s' _ _ st (seg_again rfl loop)))))
/-- all.loop, any.loop: RR what is wanted of the answer -/
theorem loop_aa {b : Bool} {Y : Cx} {tn : Nat → Heap → Prop} {Q : VK} {Wi : Nat → Nat → Hp → Prop} {P : Program} {w : World} {A : Around} {a : Addr} {g : Nat} {RR : Bool → Shared → Prop} (hh : A.handled = none) (hroom : A.depth < recursionLimit)
    (hlim : ∀ {σ : L2.St} {H : Hp} {s : Shared}, Inv Y [] σ H s → s.heap.NoLimit ∧ s.heap.IsGen a g)
    (fin : ∀ k Hc s₁ s', Inv Y [] σ Hc s₁ → Q (.bl k) Hc → s'.os = s₁.os → AllBare s'.gens → (∀ b o, s₁.heap.get? b = some o → s'.heap.get? b = some o) → RR k s') (id : String) (hid : id = if b = true then "all.loop" else "any.loop") :
    ∀ (n i : Nat) (Hc : Hp) (s : Shared), Wi i n Hc → GAt Y fp σ tn i Hc s → (∃ gs, s.gens[g]? = some gs ∧ ∀ s', s'.heap = s.heap → s'.os = s.os → AllBare s'.gens → gs.Goes (model P w) A.in1.in1 (aaR b Y σ Q) (aaY b Y fp σ tn Q Wi) n (.send .none) s') →
      codeAny (model P w) A (.builtin id ⟨[.ref a], []⟩) (fun r s' => match r with | .ok (.ret u) => ∃ k, u = .bool k ∧ RR k s' | _ => False) s := by
  have goes : ∀ {n : Nat} {r : Resume} {s : Shared} {gs : GenState}, gs.Goes (model P w) A.in1.in1 (aaR b Y σ Q) (aaY b Y fp σ tn Q Wi) n r s →
      gs.Goes (model P w) A.in1.in1 (fun n s₀ r s₁ => ((r = .ok (.ret .none) ∨ r = .ok .next) ∧ (fun _ _ s => aaF b Y σ Q s) n s₀ s₁) ∨ ∃ e, r = .error e ∧ (fun _ _ => False) e s₁) (aaY b Y fp σ tn Q Wi) n r s := fun h => h
  have turn : ∀ (n : Nat) (s : Shared) (i : Nat) (Hc : Hp), GAt Y fp σ tn i Hc s → (∃ gs, s.gens[g]? = some gs ∧ ∀ s', s'.heap = s.heap → s'.os = s.os → AllBare s'.gens → gs.Goes (model P w) A.in1.in1 (aaR b Y σ Q) (aaY b Y fp σ tn Q Wi) n (.send .none) s') →
      ∀ (Qo : Option Value → Shared → Prop) (E : Value → Shared → Prop), (∀ s', RR b s' → Qo none s') →
      (∀ k i Hc s', GAt Y fp σ tn i Hc s' → (if k = b then Wi i (n - 1) Hc else Q (.bl (!b)) Hc) → (k = b → ∃ m, n = m + 1 ∧ ∃ gs, s'.gens[g]? = some gs ∧ ∀ s'', s''.heap = s'.heap → s''.os = s'.os → AllBare s''.gens → gs.Goes (model P w) A.in1.in1 (aaR b Y σ Q) (aaY b Y fp σ tn Q Wi) m (.send .none) s'') → Qo (some (.bool k)) s') →
      wpAny (model P w) A.in1 (pyNext (.ref a)) Qo E s := by
    intro n s i Hc st ⟨gs, hgs, hgo⟩ Qo E h0 h1
    obtain ⟨l1, l2⟩ := hlim st.inv
    have hgl : g < s.gens.size := (Array.getElem?_eq_some_iff.mp hgs).1
    refine wpAny_gsz (n := g + 1) hgl (next_genG (A := A.in1) (Er := fun _ _ => False) (F := fun _ _ s => aaF b Y σ Q s) (Y := aaY b Y fp σ tn Q Wi) hh l1 hroom l2 hgs (goes (hgo _ rfl rfl (allBare_setGen st.inv.bare rfl))) (fun v s₁ gs' hbare hv => ?_) (fun s₁ hp h' hk => ?_) fun e s₁ he => he.elim)
    · intro hsz
      obtain ⟨k, i', Hc', rfl, a', q, kap⟩ := hv
      have hsz1 : g < s₁.gens.size := by
        have q : (s₁.setGen g gs').gens.size = s₁.gens.size := setGen_size _ _ _
        have hsz' : g + 1 ≤ (s₁.setGen g gs').gens.size := hsz
        omega
      have a2 : GAt Y fp σ tn i' Hc' (s₁.setGen g gs') := ⟨inv_same a'.inv rfl rfl (allBare_setGen a'.inv.bare hbare), a'.tn, a'.fp⟩
      refine h1 k i' Hc' _ a2 q fun hk => ?_
      cases n with
      | zero => exact (kap hk s₁ rfl rfl a'.inv.bare).elim
      | succ m => exact ⟨m, rfl, gs', setGen_at hsz1, fun s'' e1 e2 e3 => kap hk s'' e1 e2 e3⟩
    · intro hsz
      obtain ⟨Hc', I, q⟩ := hp
      exact h0 _ (fin b Hc' s₁ _ I q rfl (allBare_setGen I.bare rfl) hk)
  cases b with
  | true =>
    obtain rfl : id = "all.loop" := hid.trans (if_pos rfl)
    intro n
    induction n with
    | zero =>
      intro i Hc s wi st hgs
      refine codeAny_builtin F.entry_all_loop ?_
      rw [Around.under_plainId F.plain_all_loop _]
      show wpAny _ A.in1 (pyNext (.ref a) >>= _) _ _ s
      refine wpAny_bind (turn 0 s i Hc st hgs _ _ (fun s' r => ?_) fun k i' Hc' s' a' q c => ?_)
      · exact wpAny_bind (wpAny_rule (wpAny_pure ⟨true, rfl, r⟩))
      · cases k with
        | true => obtain ⟨m, e, _⟩ := c rfl; cases e
        | false =>
          refine wpAny_bind (wpAny_holding (wpAny_truthy_bool ?_))
          refine wpAny_bind (wpAny_letGo ?_)
          simp only [Bool.false_eq_true, if_false] at q ⊢
          exact wpAny_bind (wpAny_rule (wpAny_pure ⟨false, rfl, fin false Hc' s' s' a'.inv q rfl a'.inv.bare fun _ _ e => e⟩))
    | succ n ih =>
      intro i Hc s wi st hgs
      refine codeAny_builtin F.entry_all_loop ?_
      rw [Around.under_plainId F.plain_all_loop _]
      show wpAny _ A.in1 (pyNext (.ref a) >>= _) _ _ s
      refine wpAny_bind (turn (n + 1) s i Hc st hgs _ _ (fun s' r => ?_) fun k i' Hc' s' a' q c => ?_)
      · exact wpAny_bind (wpAny_rule (wpAny_pure ⟨true, rfl, r⟩))
      · refine wpAny_bind (wpAny_holding (wpAny_truthy_bool ?_))
        refine wpAny_bind (wpAny_letGo ?_)
        cases k with
        | true =>
          obtain ⟨m, e, c⟩ := c rfl
          cases e
          simp only [if_true] at q ⊢
          exact wpAny_pure ⟨plainId_quiet F.plain_all_loop _, ih i' Hc' s' q a' c⟩
        | false =>
          simp only [Bool.false_eq_true, if_false] at q ⊢
          exact wpAny_bind (wpAny_rule (wpAny_pure ⟨false, rfl, fin false Hc' s' s' a'.inv q rfl a'.inv.bare fun _ _ e => e⟩))
  | false =>
    obtain rfl : id = "any.loop" := hid.trans (if_neg (by simp))
    intro n
    induction n with
    | zero =>
      intro i Hc s wi st hgs
      refine codeAny_builtin F.entry_any_loop ?_
      rw [Around.under_plainId F.plain_any_loop _]
      show wpAny _ A.in1 (pyNext (.ref a) >>= _) _ _ s
      refine wpAny_bind (turn 0 s i Hc st hgs _ _ (fun s' r => ?_) fun k i' Hc' s' a' q c => ?_)
      · exact wpAny_bind (wpAny_rule (wpAny_pure ⟨false, rfl, r⟩))
      · cases k with
        | false => obtain ⟨m, e, _⟩ := c rfl; cases e
        | true =>
          refine wpAny_bind (wpAny_holding (wpAny_truthy_bool ?_))
          refine wpAny_bind (wpAny_letGo ?_)
          simp only [Bool.true_eq_false, if_false, if_true] at q ⊢
          exact wpAny_bind (wpAny_rule (wpAny_pure ⟨true, rfl, fin true Hc' s' s' a'.inv q rfl a'.inv.bare fun _ _ e => e⟩))
    | succ n ih =>
      intro i Hc s wi st hgs
      refine codeAny_builtin F.entry_any_loop ?_
      rw [Around.under_plainId F.plain_any_loop _]
      show wpAny _ A.in1 (pyNext (.ref a) >>= _) _ _ s
      refine wpAny_bind (turn (n + 1) s i Hc st hgs _ _ (fun s' r => ?_) fun k i' Hc' s' a' q c => ?_)
      · exact wpAny_bind (wpAny_rule (wpAny_pure ⟨false, rfl, r⟩))
      · refine wpAny_bind (wpAny_holding (wpAny_truthy_bool ?_))
        refine wpAny_bind (wpAny_letGo ?_)
        cases k with
        | false =>
          obtain ⟨m, e, c⟩ := c rfl
          cases e
          simp only [Bool.false_eq_true, if_false, if_true] at q ⊢
          exact wpAny_pure ⟨plainId_quiet F.plain_any_loop _, ih i' Hc' s' q a' c⟩
        | true =>
          simp only [Bool.true_eq_false, if_false, if_true] at q ⊢
          exact wpAny_bind (wpAny_rule (wpAny_pure ⟨true, rfl, fin true Hc' s' s' a'.inv q rfl a'.inv.bare fun _ _ e => e⟩))
/-- THE RULE -/
def tAA (P : Addr) (b : Bool) (wi : TI) (g : TG) (te : TE) (vs : List Nat) : TE := fun σ H Q => wi σ H fun J H1 => GxR.TabG H1 P ∧ ∀ H2, GxR.Tabbed P H1 H2 → ∃ Wi : Nat → Nat → Hp → Prop, (∃ m, Wi 0 m H2) ∧ Turns b J g te σ vs Q Wi
theorem pe_aa {b : Bool} {nm : Str} {c P : Addr} {elt tg iter : Expr} {p pos gpos : Pos} {wi : TI} {g : TG} {te : TE} {k : Nat} (hr : Room (k + 1) X.A) (hc : X.calm = true) (hnm : nm = if b = true then ("all" : Str) else ("any" : Str)) (hg : Gl X nm) (hm : X.mg nm = none)
    (TB : GxR.TabB X.base X.mg c P) (hcode : X.env.code = .ref c) (ok : GxOk X.N X.env.scope scope vs) (hi : PI X tg iter wi) (hgt : ∀ code s H fp pn, PG (gx X scope code s H fp pn) tg g) (hel : ∀ code s H fp pn, PE (gx X scope code s H fp pn) elt te)
    (hs : ∀ v, genFold iter X.env v = pure v)
    (he : starEach [.GeneratorExp elt [⟨tg, iter, [], 0⟩] scope gpos] X.env = (false, eval (.GeneratorExp elt [⟨tg, iter, [], 0⟩] scope gpos) X.env) :: starEach [] X.env := by rfl) :
    PE X (.Call (.Name nm p) [.GeneratorExp elt [⟨tg, iter, [], 0⟩] scope gpos] [] pos) (tAA P b wi g te vs) := by
  refine ⟨fun pins s σ H Q I h => ?_⟩
  have hb : bootBuiltins nm = some (.builtin (if b = true then "all" else "any")) := by
    rw [hnm]
    cases b
    · exact boot_any
    · kernel_rfl
  have hnn : nm ≠ "__name__" := by rw [hnm]; cases b <;> decide
  have hnd : (nm == ("__debug__" : Str)) = false := by rw [hnm]; cases b <;> decide
  refine wpAny_Call_Name_kw (ld_blt I hg hm hb ?_ hnn hnd)
  refine PyProof.Rows.callWith_builtin1 ?_ he (by rfl)
  rw [he]
  show wpAny _ _ (spliced ((false, eval (.GeneratorExp elt [⟨tg, iter, [], 0⟩] scope gpos) X.env) :: backTo pos (starEach [] X.env))) _ _ s
  have hdep : X.A.depth < recursionLimit := by have := hr.dp; omega
  refine Calls.spliced_cons ?_
  refine wpAny_GeneratorExp_make ok.co (closure_ok (ok.has I)) ok.nocell ok.dot ok.kind hdep ?_ hs
  refine thn (hi.run pins s σ H _ I h) fun xv s1 hx => thn hx fun itv s2 h2 => ?_
  obtain ⟨it, fp, tn, J, H2, rfl, I2, T, st2, f2, ⟨ps, hP, ht⟩, q⟩ := h2
  refine ⟨I2.nolimit, ?_⟩
  have hPs : s2.heap.get? P = some { cls := .none, data := .fields ps } := I2.hok P _ hP
  have cd : PySem.W.CodeHd s2.heap c P := TB.code.keeps I2.bk
  have fpP : ∀ b ∈ fp, b ≠ P := fun b hb z => by
    have z1 := (f2 b hb).1
    rw [z, hP] at z1
    cases z1
  have cont : ∀ (code : Value) (h3 : Heap) (tk : Nat) (ps' : Array Value), Heap.ExtBut P s2.heap h3 → h3.get? P = some { cls := .none, data := .fields ps' } → (∃ more, ps' = ps ++ more) → TriplesOk ps'.toList →
      wpAny (model X.prog X.w) X.A (builtinsFor X.env.globals X.env.builtins) (fun bi s₄ => ∀ h', h'.Ns s₄.heap.objs.size (fun y => if y = (".0" : Str) then some (.ref it) else none) → Heap.SameBut s₄.heap.objs.size (s₄.heap.push { cls := .type "frame", data := .dict #[] }) h' →
          wpAny (model X.prog X.w) X.A (spliced (backTo pos (starEach [] X.env))) (fun vs s' => wpAny (model X.prog X.w) X.A (call (.builtin (if b = true then "all" else "any")) (.ref h'.objs.size :: vs)) (EP X pins σ Q) X.xe s') X.xe { s₄ with
            gens := s₄.gens.push (.fresh (.compStart (.GeneratorExp elt [⟨tg, iter, [], 0⟩] scope gpos) 0 (.ref it) .none (genEnv scope (cloFrom X.env.cells scope.names []) s₄.heap.objs.size code bi X.env))),
            toks := s₄.toks + 1 + 1 + 1,
            heap := h'.push { cls := .type "generator", data := .fields #[.int s₄.gens.size 0, .str "<genexpr>" (s₄.toks + 1), .str (X.env.qual ++ "<genexpr>") (s₄.toks + 1 + 1)] } }) X.xe { s2 with heap := h3, toks := tk } := by
    intro code h3 tk ps' hx hP3 hmore ht3
    obtain ⟨bm, ob, e1, e2, e3, e4, e5, e6, e7, e8⟩ := TB.bm
    have keep3 : ∀ d u, d ≠ P → s2.heap.get? d = some u → h3.get? d = some u := fun d u hd e => hx d u hd e
    refine wpAny_builtinsFor (m := X.mg) (by rw [I2.ok.glob]; exact (I2.mod.glob.keeps I2.bk).extBut hx TB.gP) e1 e2 (keep3 _ _ e4 (I2.bk _ _ e5)) e6 e7 e8 ?_
    obtain ⟨more, rfl⟩ := hmore
    have I4 : Inv X pins σ (upd H2 P (.tbl (ps ++ more))) { s2 with heap := h3, toks := tk } := GxR.inv_tab (more := more) (h' := h3) (g' := s2.gens) (d' := s2.drawn) (t' := tk) I2 hP keep3 hP3 I2.bare
    obtain ⟨Wi, ⟨m, w0⟩, turns⟩ := q (upd H2 P (.tbl (ps ++ more))) ⟨⟨ps ++ more, upd_same, ht3⟩, fun d hd => upd_ne hd⟩
    generalize hH4 : upd H2 P (.tbl (ps ++ more)) = H4 at I4 w0
    have f4 : ∀ d ∈ fp, FpOk X pins H4 d ∧ d < h3.objs.size := fun d hd => by
      obtain ⟨o, e, _⟩ := T.obj _ _ st2 d hd
      refine ⟨⟨?_, (f2 d hd).2⟩, Heap.lt_size (keep3 d o (fpP d hd) e)⟩
      rw [← hH4, upd_ne (fpP d hd)]
      exact (f2 d hd).1
    have st3 : tn 0 h3 := T.keep _ _ _ st2 fun d hd o e => keep3 d o (fpP d hd) e
    generalize hs4 : ({ s2 with heap := h3, toks := tk } : Shared) = s4 at I4 ⊢
    have h4 : s4.heap = h3 := by rw [← hs4]
    rw [← h4] at f4 st3
    intro h' hn hsb
    refine Calls.spliced_nil ?_
    have keep5 : ∀ d u, s4.heap.get? d = some u → h'.get? d = some u := fun d u e => hsb.extBut d u (Nat.ne_of_lt (Heap.lt_size e)) (Heap.get?_push_of_some _ e)
    have hsz : h'.objs.size = s4.heap.objs.size + 1 := by rw [hsb.1, Heap.size_push]
    generalize hgo : ({ cls := .type "generator", data := .fields #[.int s4.gens.size 0, .str "<genexpr>" (s4.toks + 1), .str (X.env.qual ++ "<genexpr>") (s4.toks + 1 + 1)] } : Obj) = go
    have goData : ∀ v, go.data ≠ .cell v := fun v z => by rw [← hgo] at z; cases z
    have gen : ∀ h : Heap, h.get? h'.objs.size = some go → h.IsGen h'.objs.size s4.gens.size := fun h e => ⟨go, _, _, e, by rw [← hgo], by rw [← hgo], by rw [← hgo]⟩
    have hget : (h'.push go).get? h'.objs.size = some go := Heap.get?_push_size _ (by rw [← hgo]; rfl)
    have bare5 : AllBare (s4.gens.push (.fresh (.compStart (.GeneratorExp elt [⟨tg, iter, [], 0⟩] scope gpos) 0 (.ref it) .none (gEnv X scope code s4)))) := AllBare.push I4.bare rfl
    have keep6 : ∀ d u, s4.heap.get? d = some u → (h'.push go).get? d = some u := fun d u e => Heap.get?_push_of_some _ (keep5 d u e)
    have pnl : ∀ pq ∈ [(h'.objs.size, go)], pq.1 ∉ fp := fun pq hpq z => by
      rw [List.mem_singleton.mp hpq] at z
      have := (f4 _ z).2
      have z2 : h'.objs.size < s4.heap.objs.size := this
      omega
    have I5 := gx_start (code := code) (pn := [(h'.objs.size, go)]) (g' := s4.gens.push (.fresh (.compStart (.GeneratorExp elt [⟨tg, iter, [], 0⟩] scope gpos) 0 (.ref it) .none (gEnv X scope code s4)))) (t' := s4.toks + 1 + 1 + 1) ok hc I4 f4 (hn.push go) keep6 bare5 fun pq hpq => by
      rw [List.mem_singleton.mp hpq]
      exact ⟨hget, by rw [hsz]; exact Nat.lt_succ_self _, goData⟩
    have a5 : GAt (gx X scope code s4 H4 fp [(h'.objs.size, go)]) fp (wipe σ vs) tn 0 H4 { s4 with heap := h'.push go, gens := s4.gens.push (.fresh (.compStart (.GeneratorExp elt [⟨tg, iter, [], 0⟩] scope gpos) 0 (.ref it) .none (gEnv X scope code s4))), toks := s4.toks + 1 + 1 + 1 } :=
      ⟨I5, T.keep _ _ _ st3 fun d hd o e => keep6 d o e, fun d hd => (f4 d hd).1.1⟩
    have loop := loop_aa (b := b) (P := X.prog) (w := X.w) (A := X.A) (a := h'.objs.size) (g := s4.gens.size) (Q := Q) (Wi := Wi) (σ := wipe σ vs) (fp := fp) (Y := gx X scope code s4 H4 fp [(h'.objs.size, go)]) (tn := tn) (RR := fun k s' => EP X pins σ Q (.bool k) s') (I4.ok.hd hc) hdep
      (fun {σ' H' s'} I' => ⟨I'.nolimit, gen _ (I'.pin (h'.objs.size, go) (by show _ ∈ [(h'.objs.size, go)] ++ []; simp)).1⟩)
      (fun k Hc s₁ s' I' q ho hb hk => by
        refine ⟨.bl k, Hc, ?_, rfl, q⟩
        refine I4.call' (ch := fp) (ho.trans I'.os) (I'.base.trans (Un.kept hk)) (I'.hok.kept hk) hb fun d hd => ?_
        obtain ⟨_, z1, z2, z3, z4, z5⟩ := (f4 d hd).1
        exact ⟨z3, z1, z4, z5⟩) (if b = true then "all.loop" else "any.loop") rfl m 0 H4 _ w0 a5
      ⟨_, Array.getElem?_push_size .., fun s' e1 e2 e3 => ⟨rfl, seg_aa0 (fun A s Q E => T.self A 0 s Q E) (by rw [e1]; exact a5.tn) (seg_aa ok.co (I4.ok.hd hc) pnl T (hgt _ _ _ _ _) (hel _ _ _ _ _) turns m 0 H4 _ s' w0 ⟨inv_same a5.inv e1 e2 e3, by rw [e1]; exact a5.tn, a5.fp⟩)⟩⟩
    have fin : codeAny (model X.prog X.w) X.A (.builtin (if b = true then "all.loop" else "any.loop") ⟨[.ref h'.objs.size], []⟩) (fun r s' => match r with | .ok (.ret v) => EP X pins σ Q v s' | .ok _ => False | .error e => X.xe e s')
        { s4 with heap := h'.push go, gens := s4.gens.push (.fresh (.compStart (.GeneratorExp elt [⟨tg, iter, [], 0⟩] scope gpos) 0 (.ref it) .none (gEnv X scope code s4))), toks := s4.toks + 1 + 1 + 1 } := by
      refine codeAny_mono loop fun r s' hq => ?_
      cases r with
      | error e => exact hq.elim
      | ok fl => cases fl with
        | ret u => obtain ⟨k, rfl, z⟩ := hq; exact z
        | _ => exact hq.elim
    cases b with
    | true =>
      refine call_function_tree F.kind_all F.plain_all F.entry_all (F.args_all1 _) ?_
      unfold Builtin.«all»
      refine wpAny_bind (m := oneArg "all" _) (wpAny_pure ?_)
      refine wpAny_bind (wpAny_pyIter_gen (gen _ hget) ?_)
      exact wpAny_pure ⟨plainId_quiet F.plain_all_loop _, fin⟩
    | false =>
      refine call_function_tree F.kind_any F.plain_any F.entry_any (F.args_any1 _) ?_
      unfold Builtin.«any»
      refine wpAny_bind (m := oneArg "any" _) (wpAny_pure ?_)
      refine wpAny_bind (wpAny_pyIter_gen (gen _ hget) ?_)
      exact wpAny_pure ⟨plainId_quiet F.plain_any_loop _, fin⟩
  cases hf : codeAmong gpos ps.toList with
  | none =>
    refine wpAny_genexprCodeX hcode (cd.code hPs ht) (cd.tab hPs) hf fun c' h' tk hx hge hlt hco' _ htab' _ => ?_
    obtain ⟨o1, vs1, f1, tf, fl, tg1, inF, tx, tt, op, _, _, _, _, _, _, _, _, _, htr, _⟩ := hco'
    exact cont _ h' tk _ hx htab'.2 ⟨_, rfl⟩ htr
  | some cv =>
    refine wpAny_genexprCode_hit hcode (cd.code hPs ht) hf ?_
    exact cont cv s2.heap s2.toks ps (Heap.ExtBut.refl _ _) hPs ⟨#[], by simp⟩ ht
end
end DX

/-! DxGy: all, any over a walk, as runs. -/
set_option linter.all false
set_option maxRecDepth 100000
set_option Elab.async false
namespace DX
open PySem PySem.Spec PyProof.Rows L2

theorem Ext.tabbed {ρ : List Addr} {H H2 : Hp} {P : Addr} (t : GxR.TabG H P) (h : GxR.Tabbed P H H2) : Ext ρ H ρ H2 := by
  obtain ⟨ps, e, _⟩ := t
  obtain ⟨⟨ps2, e2, _⟩, keep⟩ := h
  refine ⟨⟨[], by simp, by simp⟩, fun a o _ q n => ?_, fun a q => ?_⟩
  · have ne : a ≠ P := by
      rintro rfl
      rw [e] at q
      cases q
      exact n _ rfl
    rw [keep a ne]; exact q
  · by_cases z : a = P
    · rw [z, e2]; simp
    · rw [keep a z]; exact q
theorem SR.tabbed {W : Wd} {ρ : List Addr} {H H2 : Hp} {st : Sto} {P : Addr} (s : SR W ρ H st) (hP : P ∈ tabsOf W.K) (h : GxR.Tabbed P H H2) : SR W ρ H2 st := by
  have x : Ext ρ H ρ H2 := .tabbed (s.tab P hP).1 h
  have np := s.tabNin hP
  refine ⟨s.len, s.nd, fun a ha => ⟨x.there a (s.avs a ha).1, (s.avs a ha).2⟩, fun n a o e1 e2 => (s.at_ n a o e1 e2).ext x (h.2 a ?_), fun P' hP' => ⟨?_, (s.tab P' hP').2⟩⟩
  · rintro rfl
    exact np (List.mem_of_getElem? e1)
  · by_cases z : P' = P
    · subst z; exact h.1
    · obtain ⟨ps, e, t⟩ := (s.tab P' hP').1
      exact ⟨ps, by rw [h.2 P' z]; exact e, t⟩
/-! ### the run -/
def aaL (b : Bool) (it : Itr) (n : Nat) (g : GM) (f : EM) : Nat → Sl → Sto → R D
  | 0, _, st => if it.len st = some n then .ok (.bl b) st else .no
  | r + 1, e, st => if it.len st = some n then
      match it.at st (n - (r + 1)) with
      | some d => match g d e with
        | some e' => match f e' st with
          | .ok (.bl k) st1 => if k = b then aaL b it n g f r e st1 else .ok (.bl (!b)) st1
          | _ => .no
        | none => .no
      | none => .no
    else .no
/-- all (b = true), any (b = false) -/
def mAA (b : Bool) (im : IM) (vs : List Nat) (g : GM) (f : EM) : EM := fun e st => (im e st).bind fun it st1 => match it.len st1 with
  | some n => aaL b it n g f n (wipeE e vs) st1
  | none => .no
section
variable {K : PySem.W.Frag} {mg : Str → Option Value} {Wx : WX}
theorem aaL_noexc {b : Bool} {it : Itr} {n : Nat} {g : GM} {f : EM} : ∀ (r : Nat) (e : Sl) (st : Sto) (k : Str) (fs : List (Str × D)) (s' : Sto), aaL b it n g f r e st ≠ .exc k fs s' := by
  intro r
  induction r with
  | zero => intro e st k fs s' z; unfold aaL at z; split at z <;> cases z
  | succ r ih =>
    intro e st k fs s' z
    unfold aaL at z
    repeat' split at z
    all_goals first | exact ih _ _ _ _ _ z | cases z
theorem snd_aa {b : Bool} {P : Addr} {wi : TI} {g : TG} {te : TE} {vs : List Nat} {im : IM} {m : GM} {f : EM} (hP : P ∈ tabsOf K) (hi : SndI K mg wi Wx im) (hg : SndG K mg g m) (hw : GW g vs) (hm : GMono g) (hf : SndE K mg te WF f) :
    SndE K mg (tAA P b wi g te vs) Wx (mAA b im vs m f) := by
  intro av σ e ρ H st Q s er h
  refine hi av σ e ρ H st _ s er ((Post.bind h).imp ?_)
  rintro J H1 ⟨it, ρ1, st1, x1, s1, j1, q1⟩
  split at q1
  · rename_i n hn
    refine ⟨(s1.tab P hP).1, fun H2 tb => ?_⟩
    have s2 : SR ⟨K, mg, av⟩ ρ1 H2 st1 := s1.tabbed hP tb
    have x2 : Ext ρ1 H1 ρ1 H2 := .tabbed (s1.tab P hP).1 tb
    refine ⟨fun i r Hc => i + r = n ∧ ∃ ρc stc, Ext ρ1 H2 ρc Hc ∧ SR ⟨K, mg, av⟩ ρc Hc stc ∧ ER ⟨K, mg, av⟩ ρc Hc (wipeE e vs) (wipe σ vs) ∧ JR ⟨K, mg, av⟩ ρc Hc it J ∧
        Post ⟨K, mg, av⟩ (Rel ⟨K, mg, av⟩) (fun c d H => Wx c d σ H) ρc Hc Q (aaL b it n m f r (wipeE e vs) stc),
      ⟨n, by omega, ρ1, st1, .refl, s2, (er.ext (x1.trans x2)).wipe vs, j1.ext x2, Post.ext q1 x2⟩, ?_⟩
    rintro i r Hc ⟨hir, ρc, stc, xc, sc, ec, jc, p⟩
    cases r with
    | zero =>
      unfold aaL at p
      by_cases hl : it.len stc = some n
      · rw [if_pos hl] at p
        have hi' : i = n := by omega
        subst hi'
        exact .inl ⟨jc.stop sc hl, p.ok sc (.bl b)⟩
      · rw [if_neg hl] at p; exact p.elim
    | succ r =>
      unfold aaL at p
      split at p
      · rename_i hl
        have hi' : n - (r + 1) = i := by omega
        rw [hi'] at p
        split at p
        · rename_i d hd
          obtain ⟨go, yl⟩ := jc.turn sc hd
          refine .inr ⟨go, r, rfl, fun v H3 y => ?_⟩
          obtain ⟨x3, s3, r3⟩ := yl v H3 y
          split at p
          · rename_i e' he
            refine hm _ _ _ _ _ (fun σ2 H2 z => z) (hm _ _ _ _ _ ?_ (hw v (wipe σ vs) H3 _ (hg av (wipe σ vs) (wipeE e vs) ρc H3 stc d v e' (fun σ2 H2 => ER ⟨K, mg, av⟩ ρc H3 e' σ2 ∧ H2 = H3) s3 (ec.ext x3) r3 he fun σ2 er2 => ⟨er2, rfl⟩)))
            rintro σ2 H4 ⟨hwp, er2, rfl⟩
            refine ⟨hwp.trans (wipe_wipe σ vs), ?_⟩
            refine hf av σ2 e' ρc H4 stc _ s3 er2 ?_
            split at p
            · rename_i k st5 hf5
              rw [hf5]
              intro w ρ5 H5 x5 s5 r5
              cases r5
              refine ⟨k, rfl, ?_⟩
              have x35 := x3.trans x5
              by_cases hk : k = b
              · rw [if_pos hk] at p ⊢
                exact ⟨by omega, ρ5, st5, xc.trans x35, s5, ec.ext x35, jc.ext x35, Post.ext p x35⟩
              · rw [if_neg hk] at p ⊢
                exact (Post.ext p x35).ok s5 (.bl (!b))
            · exact p.elim
          · exact p.elim
        · exact p.elim
      · exact p.elim
  · exact q1.elim
end
end DX

/-! DxMa: a call of a def that is a value. -/
set_option linter.all false
set_option maxRecDepth 100000
set_option Elab.async false
namespace DX
open PySem PySem.Spec PyProof.Rows L2
def notAttr : Expr → Bool
  | .Attribute _ _ _ => false
  | _ => true
theorem eval_callV {env : Env} {f : Expr} (h : notAttr f = true) (es : List Expr) (kws : List Keyword) (pos : Pos) :
    eval (.Call f es kws pos) env = (do callWith pos (← eval f env) [] (backTo pos (starEach es env)) (backToKw pos (keywordEach kws env))) := by
  cases f with
  | Attribute _ _ _ => cases h
  | _ => rfl
/-- the def named x is held, at the level below -/
structure Def (X : Cx) (x : Str) (F : FI) (j : Nat) (ks : List Str) (f : Addr) : Prop where
  ex : ∃ (k : Nat) (fd : FuncData), PySem.W.keepIn X.K (.ref f) = true ∧ FnG X.prog X.w X.K X.mg X.base k f fd F.ps (spF X.K X.mg F) ∧ Room k X.A ∧ Bnd fd F.ps j ks (permOf F.ps j ks)
  mg : X.mg x = some (.ref f)
def tFnV (X : Cx) (nA nK : Nat) (ks : List Str) (E : WX) (tf : TE) (t tk : TA) : TE := fun σ H Q => tf σ H fun v H1 => ∃ x F f, v = .ref f ∧ Def X x F nA ks f ∧ tFn (spF X.K X.mg F) (permOf F.ps nA ks) nA nK E t tk σ H1 Q
/-- what f(args, k = v) comes to, f a value -/
def mFnV (fns : Str → Option FI) (pats : Str → List (Nat × List Str)) (j : Nat) (kn : List Str) (f : EM) (ms ks : List EM) : EM := fun e st => (f e st).bind fun d st1 => match d with
  | .glob x => match fns x with
    | some F => if (j, kn) ∈ pats x then mFn F (permOf F.ps j kn) ms ks e st1 else .no
    | none => .no
  | _ => .no
section
variable {X : Cx} {C : Ctx} {f : Expr} {es : List Expr} {kws : List Keyword} {ks : List Str} {pos : Pos} {Wx : WX} {tf : TE} {t tk : TA}
theorem pe_fnV {e : Expr} (fr : Free X.A) (tkx : Takes X Wx) (hn : notAttr f = true) (hf : PE X f tf)
    (ha : PA X (e :: es) t) (hkw : PK X kws tk) (hall : (backToKw pos (keywordEach kws X.env)).all (·.1.isSome) = true) (hks : (backToKw pos (keywordEach kws X.env)).filterMap (·.1) = ks)
    (he : starEach (e :: es) X.env = (false, eval e X.env) :: starEach es X.env)
    (hpl : ((backTo pos (starEach (e :: es) X.env)).any (·.1) || (backToKw pos (keywordEach kws X.env)).any (·.1.isNone)) = false) :
    PE X (.Call f (e :: es) kws pos) (tFnV X (e :: es).length ks.length ks Wx tf t tk) := by
  refine ⟨fun pins s σ H Q I h => ?_⟩
  rw [eval_callV hn]
  refine wpAny_bind (thn (hf.run pins s σ H _ I h) fun u s0 ⟨v, H0, I0, r0, q0⟩ => ?_)
  obtain ⟨x, F, a, rfl, ⟨⟨k, fd, hk, G, hr, hb⟩, hm⟩, h⟩ := q0
  cases r0
  refine PySem.W.callWith_KW (h₀ := X.base) I0.ok.mod.kin hk hall (thn (ha.run pos pins s0 σ H0 _ I0 h) fun us s1 ⟨vs, H1, I1, r, l1, q⟩ => ?_) hpl he
  refine thn (hkw.run pos pins s1 σ H1 _ I1 q) fun ws s2 ⟨zs, H2, I2, rz, l2, q2⟩ => ⟨I2.kIn, ?_⟩
  rw [hks]
  exact G.call fr hr tkx I2 (hb s2 us ws (by rw [← r.length]; exact l1) (by rw [← rz.length]; exact l2)) (Vals.pick (r.append rz) _) q2
theorem pe_fnV0 (fr : Free X.A) (tkx : Takes X Wx) (hn : notAttr f = true) (hf : PE X f tf)
    (hkw : PK X kws tk) (hall : (backToKw pos (keywordEach kws X.env)).all (·.1.isSome) = true) (hks : (backToKw pos (keywordEach kws X.env)).filterMap (·.1) = ks)
    (hpl : ((backTo pos (starEach [] X.env)).any (·.1) || (backToKw pos (keywordEach kws X.env)).any (·.1.isNone)) = false) :
    PE X (.Call f [] kws pos) (tFnV X 0 ks.length ks Wx tf tNil tk) := by
  refine ⟨fun pins s σ H Q I h => ?_⟩
  rw [eval_callV hn]
  refine wpAny_bind (thn (hf.run pins s σ H _ I h) fun u s0 ⟨v, H0, I0, r0, q0⟩ => ?_)
  obtain ⟨x, F, a, rfl, ⟨⟨k, fd, hk, G, hr, hb⟩, hm⟩, h⟩ := q0
  cases r0
  refine PySem.W.callWith_KW0 (h₀ := X.base) I0.ok.mod.kin hk hall ?_ hpl
  obtain ⟨_, h⟩ := h
  refine thn (hkw.run pos pins s0 σ H0 _ I0 h) fun ws s2 ⟨zs, H2, I2, rz, l2, q2⟩ => ⟨I2.kIn, ?_⟩
  rw [hks]
  exact G.call (us := []) fr hr tkx I2 (hb s2 [] ws rfl (by rw [← rz.length]; exact l2)) (Vals.pick rz _) q2
theorem snd_fnV {mf : EM} {ms mk : List EM} {fns : Str → Option FI} {pats : Str → List (Nat × List Str)}
    (hfn : ∀ x F, fns x = some F → ∃ f, ∀ j kn, (j, kn) ∈ pats x → Def X x F j kn f) (h0 : SndE X.K X.mg tf Wx mf) (h1 : SndL X.K X.mg t Wx (mL ms)) (h2 : SndL X.K X.mg tk Wx (mL mk)) :
    SndE X.K X.mg (tFnV X ms.length mk.length ks Wx tf t tk) Wx (mFnV fns pats ms.length ks mf ms mk) := by
  intro av σ e ρ H st Q s er h
  refine h0 av σ e ρ H st _ s er ((Post.bind h).imp ?_)
  rintro v H1 ⟨d, ρ1, st1, x1, s1, r1, q1⟩
  split at q1
  · rename_i x
    split at q1
    · rename_i F hF
      split at q1
      · rename_i hp
        obtain ⟨f, hD⟩ := hfn x F hF
        have D := hD _ _ hp
        cases r1 with
        | glob hm =>
          have e2 := D.mg
          rw [show X.mg x = _ from hm] at e2
          cases e2
          exact ⟨x, F, f, rfl, D, snd_fn (F := F) (perm := permOf F.ps ms.length ks) h1 h2 av σ e ρ1 H1 st1 Q s1 (er.ext x1) q1⟩
      · exact q1.elim
    · exact q1.elim
  · exact q1.elim
theorem de_fnV {mf : EM} {ms mk : List EM} {fns : Str → Option FI} {pats : Str → List (Nat × List Str)} (hfn : ∀ x F, fns x = some F → ∃ f, ∀ j kn, (j, kn) ∈ pats x → Def X x F j kn f) (fr : Free X.A) (hn : notAttr f = true) (hf : DE X f mf)
    (ha : DL X es (mL ms)) (hw : DK X kws (mL mk)) (l1 : ms.length = es.length) (l2 : mk.length = (kws.filterMap (·.arg)).length) (st : es.all (fun e => !isStar e) = true) (sk : kws.all (fun k => k.arg.isSome) = true) :
    DE X (.Call f es kws pos) (mFnV fns pats ms.length (kws.filterMap (·.arg)) mf ms mk) := fun Wx tk => by
  obtain ⟨t0, p0, s0⟩ := hf Wx tk
  obtain ⟨t1, p1, s1⟩ := ha Wx tk
  obtain ⟨t2, p2, s2⟩ := hw Wx tk
  cases es with
  | nil =>
    have e0 : ms = [] := List.length_eq_zero_iff.mp l1
    subst e0
    refine ⟨_, pe_fnV0 fr tk hn p0 p2 (kw_all sk) kw_names (by rw [kw_none sk]; rfl), ?_⟩
    have := snd_fnV (ms := []) (mk := mk) (ks := kws.filterMap (·.arg)) hfn s0 (snd_nil (K := X.K) (mg := X.mg) (Wx := Wx)) s2
    rw [l2] at this
    exact this
  | cons e es =>
    have st2 := st
    rw [List.all_cons, Bool.and_eq_true, Bool.not_eq_true'] at st
    refine ⟨_, pe_fnV fr tk hn p0 p1 p2 (kw_all sk) kw_names (star_cons st.1) (by rw [kw_none sk, Bool.or_false]; exact star_any st2), ?_⟩
    have := snd_fnV (ms := ms) (mk := mk) (ks := kws.filterMap (·.arg)) hfn s0 s1 s2
    rw [l2, l1] at this
    rw [l1]
    exact this
theorem Good.defs (g : Good X C) : ∀ x F, C.fns x = some F → ∃ f, ∀ j kn, (j, kn) ∈ C.pats x → Def X x F j kn f := fun x F h => by
  obtain ⟨k, f, fd, hm, hk, G, hr, hb⟩ := g.fn x F h
  exact ⟨f, fun j kn hp => ⟨⟨k, fd, hk, G, hr.mono (Nat.le_add_right _ _), hb j kn hp⟩, hm⟩⟩
/-- a call of what is no global name -/
def cCallV (fe : FE) (C : Ctx) (f : Expr) (args : List Expr) (kws : List Keyword) : Option EM :=
  if notAttr f then match fe C false f, cL (fe C false) args, cK (fe C false) kws with
    | some mf, some ms, some mk => some (mFnV C.fns C.pats ms.length (kws.filterMap (·.arg)) mf ms mk)
    | _, _, _ => none
  else none
theorem cCallV_ok {fe : FE} (hf : SoundE fe) (g : Good X C) {args : List Expr} {m : EM} (h : cCallV fe C f args kws = some m) : DE X (.Call f args kws pos) m := by
  have hfe : ∀ e m, fe C false e = some m → DE X e m := fun e m q => hf C false e m q X g
  unfold cCallV at h
  split at h
  · rename_i hn
    split at h
    · rename_i mf ms mk z0 z1 z2
      cases h
      obtain ⟨a1, a2, a3⟩ := cL_ok hfe z1
      obtain ⟨b1, b2, b3⟩ := cK_ok hfe z2
      exact de_fnV g.defs g.free hn (hfe _ _ z0) a1 b1 a3 b3 a2 b2
    · cases h
  · cases h
end
end DX

/-! DxSl: tuples, lists the other way round. -/
set_option linter.all false
set_option maxRecDepth 100000
set_option Elab.async false
namespace DX
open PySem PySem.Spec PyProof.Rows L2
theorem fm_congr {α β : Type} {f g : α → Option β} : ∀ {l : List α}, (∀ x ∈ l, f x = g x) → l.filterMap f = l.filterMap g
  | [], _ => rfl
  | x :: l, h => by
    rw [List.filterMap_cons, List.filterMap_cons, h x List.mem_cons_self, fm_congr fun y hy => h y (List.mem_cons_of_mem x hy)]
theorem rev_pick : ∀ zs : List Value, (List.range zs.length).filterMap (fun (k : Nat) => zs.reverse.toArray[((zs.length : Int) - 1 + (k : Int) * (-1)).toNat]?) = zs
  | [] => rfl
  | z :: r => by
    rw [List.length_cons, List.range_succ_eq_map, List.filterMap_cons, List.filterMap_map]
    have f0 : ((z :: r).reverse.toArray)[(((r.length + 1 : Nat) : Int) - 1 + ((0 : Nat) : Int) * (-1)).toNat]? = some z := by
      have e : (((r.length + 1 : Nat) : Int) - 1 + ((0 : Nat) : Int) * (-1)).toNat = r.length := by omega
      rw [e, List.getElem?_toArray, List.reverse_cons, List.getElem?_append_right (by simp)]
      simp
    rw [f0]
    have rest := rev_pick r
    refine congrArg (z :: ·) (Eq.trans (fm_congr fun k hk => ?_) rest)
    have hk' : k < r.length := List.mem_range.mp hk
    show ((z :: r).reverse.toArray)[(((r.length + 1 : Nat) : Int) - 1 + ((k + 1 : Nat) : Int) * (-1)).toNat]? = r.reverse.toArray[((r.length : Int) - 1 + (k : Int) * (-1)).toNat]?
    have e : (((r.length + 1 : Nat) : Int) - 1 + ((k + 1 : Nat) : Int) * (-1)).toNat = ((r.length : Int) - 1 + (k : Int) * (-1)).toNat := by omega
    rw [e, List.getElem?_toArray, List.getElem?_toArray, List.reverse_cons, List.getElem?_append_left (by rw [List.length_reverse]; omega)]
theorem rev_places (n : Nat) : Builtin.Slice.slicePlaces ((n : Int) - 1) (-1) (-1) = n := by
  unfold Builtin.Slice.slicePlaces
  rw [if_neg (by decide)]
  by_cases h : (n : Int) - 1 > -1
  · rw [if_pos h]; simp
  · rw [if_neg h]; omega
section
variable {prog : Program} {w : World} {A : Around} {E : Value → Shared → Prop} {s : Shared}
theorem slice_back {sl : Addr} {n : Nat} {u : Tok} {Q : Int × Int × Nat → Shared → Prop} (hs : s.heap.IsSliceOf sl .none .none (.int (-1) u)) (h : Q ((n : Int) - 1, -1, n) s) : wpAny (model prog w) A (Builtin.Slice.sliceApplied (.ref sl) (pure (n : Int))) Q E s := by
  obtain ⟨o, ho, hc, hd⟩ := id hs
  unfold Builtin.Slice.sliceApplied Builtin.Slice.sliceFields
  refine wpAny_bind (wpAny_bind (wpAny_field ho hd (x := .none) rfl (wpAny_bind (wpAny_field ho hd (x := .none) rfl (wpAny_bind (wpAny_field ho hd (x := .int (-1) u) rfl (wpAny_pure ?_)))))))
  refine wpAny_bind (HT.slicePart_ (.int (-1) u) ?_)
  show wpAny _ _ (if ((-1 : Int) == 0) = true then _ else _) _ _ s
  rw [if_neg (by decide)]
  refine wpAny_bind (HT.slicePart_ .none (wpAny_bind (HT.slicePart_ .none (wpAny_bind (wpAny_pure ?_)))))
  have adj : Builtin.Slice.sliceAdjust none none (-1) (n : Int) = ((n : Int) - 1, -1) := rfl
  show wpAny _ _ (match Builtin.Slice.sliceAdjust none none (-1) (n : Int) with | (lo, hi) => pure (lo, (-1 : Int), Builtin.Slice.slicePlaces lo hi (-1))) _ _ s
  rw [adj]
  show wpAny _ _ (pure ((n : Int) - 1, (-1 : Int), Builtin.Slice.slicePlaces ((n : Int) - 1) (-1) (-1))) _ _ s
  rw [rev_places]
  exact wpAny_pure h
theorem getItem_back {t sl : Addr} {its : List Value} {u : Tok} {Q : Value → Shared → Prop} (ht : IsTup s.heap t its.toArray) (hs : s.heap.IsSliceOf sl .none .none (.int (-1) u))
    (h : Q (.ref s.heap.objs.size) { s with heap := s.heap.push { cls := .type "tuple", data := .seq its.reverse.toArray } }) (hz : its.length ≤ sizeLine) : wpAny (model prog w) A (getItem (.ref t) (.ref sl)) Q E s := by
  have small : sizeOk (.seq its.reverse.toArray) := by
    show its.reverse.toArray.size ≤ sizeLine
    rw [List.size_toArray, List.length_reverse]
    exact hz
  have ts : s.TypeIs (.ref sl) "slice" := hs.imp fun _ z => ⟨z.1, z.2.1⟩
  unfold getItem
  try with_reducible refine wpAny_holding ?_
  first | refine wpAny_bind (wpAny_pure ?_) | skip
  refine wpAny_bind (wpAny_sequenceKey ht.typeIs (by decide) ?_)
  refine wpAny_bind (wpAny_callSpecial?_slot (name := Str.ofString "__getitem__") ht.typeIs PyProof.Rows.slot_tuple_getitem (wpAny_call_entry PyProof.Rows.slot_tuple_getitem ht.typeIs entry_tuple_getitem ?_ (args_tuple_getitem _ _)))
  show wpAny _ _ (Builtin.Tuple.tupleItemsOf (.ref t) >>= _) _ _ s
  refine wpAny_bind (PyProof.Rows.tupleItemsOf_ ht (wpAny_bind (wpAny_typeOf ts ?_)))
  rw [if_pos (by decide)]
  refine wpAny_bind (slice_back hs ?_)
  have other : ¬ (((its.toArray.size : Int) - 1 == 0 && (-1 : Int) == 1 && its.toArray.size == its.toArray.size) = true) := by simp
  show wpAny _ _ (if (((its.toArray.size : Int) - 1 == 0 && (-1 : Int) == 1 && its.toArray.size == its.toArray.size) = true) then _ else _) _ _ s
  rw [if_neg other]
  have picked := rev_pick its.reverse
  rw [List.reverse_reverse, List.length_reverse] at picked
  have same : ((List.range its.toArray.size).filterMap fun (k : Nat) => its.toArray[((its.toArray.size : Int) - 1 + (k : Int) * (-1)).toNat]?).toArray = its.reverse.toArray := by
    rw [List.size_toArray, picked]
  rw [same]
  first
    | exact wpAny_bind (m := Builtin.Tuple.tupleExact _) (wpAny_newObj_type (wpAny_pure ⟨_, rfl, wpAny_pure h⟩) small)
    | exact wpAny_bind (m := Builtin.Tuple.tupleExact _) (wpAny_newObj_type (wpAny_bind (wpAny_pure (wpAny_pure ⟨_, rfl, wpAny_pure h⟩))) small)
end
/-- xs[::-1], xs a list or a tuple -/
def tBack (K : PySem.W.Frag) (te : TE) : TE := fun σ H Q => te σ H fun x H1 => ∃ a, x = .ref a ∧ ((∃ xs, SqL K H1 a xs ∧ ∀ p, H1 p = none → Q (.ref p) (upd H1 p (.lst xs.reverse))) ∨ ∃ xs, SqT K H1 a xs ∧ ∀ p, H1 p = none → Q (.ref p) (upd H1 p (.tup xs.reverse)))
section
variable {X : Cx}
theorem pe_back {e : Expr} {te : TE} {k : Nat} {p1 p2 p3 pos : Pos} (he : PE X e te) : PE X (.Subscript e (.Slice none none (some (.UnaryOp .USub (.Constant (.int 1) k p1) p2)) p3) pos) (tBack X.K te) := by
  refine ⟨fun pins s σ H Q I h => ?_⟩
  refine Subscript_ (thn (he.run pins s σ H _ I h) fun v s1 ⟨x, H1, I1, r1, a, ex, q⟩ => ?_)
  subst ex
  obtain rfl : v = .ref a := r1
  have step : PO X (some (.UnaryOp .USub (.Constant (.int 1) k p1) p2)) (tPart (tUn (rU fun i => .int (-i)) (tC (.int 1)))) := po_some (pe_un un_neg pe_int)
  refine wpAny_Slice (thn (po_none.run pins s1 σ H1 (fun o H2 => o = none ∧ H2 = H1) I1 ⟨rfl, rfl⟩) fun from_ s2 ⟨l, H2, I2, pl, el, e2⟩ => ?_)
  subst el e2
  refine thn (po_none.run pins s2 σ H2 (fun o H3 => o = none ∧ H3 = H2) I2 ⟨rfl, rfl⟩) fun to_ s3 ⟨u, H3, I3, pu, eu, e3⟩ => ?_
  subst eu e3
  refine thn (step.run pins s3 σ H3 (fun o H4 => o = some (-1) ∧ H4 = H3) I3 ⟨1, rfl, -1, rfl, rfl, rfl⟩) fun vs s4 ⟨o, H4, I4, ps, eo, e4⟩ => ?_
  subst eo e4
  have J : Inv X pins σ H4 { s4 with heap := s4.heap.push { cls := .type "slice", data := .fields #[from_, to_, vs] } } := I4.kept (t' := s4.toks) fun b ob z => Heap.get?_push_of_some _ z
  show wpAny (model X.prog X.w) X.A (subscriptTail e (.Slice none none (some (.UnaryOp .USub (.Constant (.int 1) k p1) p2)) p3) (.ref a) (.ref s4.heap.objs.size)) (EP X pins σ Q) X.xe { s4 with heap := s4.heap.push { cls := .type "slice", data := .fields #[from_, to_, vs] } }
  rcases q with ⟨xs, hx, q⟩ | ⟨xs, hx, q⟩
  · obtain ⟨its, r, ht, hz⟩ := J.list hx
    have len := r.length
    refine tail_any (ops := [.ref a, .ref s4.heap.objs.size]) ht.isList.typeIs PySem.slot_list_getitem.lookup ?_ (by with_unfolding_all rfl)
    refine wpAny_getItem_list_slice ht.isList (Heap.IsSliceOf.new _ from_ to_ vs) pl pu ps (by decide) ?_ (by rw [List.size_toArray]; omega)
    rw [PySem.W.krv_pick]
    exact ⟨.ref _, _, J.laid (t' := s4.toks) (o := .lst xs.reverse) (fun b ob z => Heap.get?_push_of_some _ z) (Nat.le_refl _) ⟨by rw [List.length_reverse]; exact hz, _, 0, r.reverse, Heap.get?_push_size _ rfl⟩, rfl, q _ (J.hok.fresh (Nat.le_refl _))⟩
  · obtain ⟨its, r, ht, hz⟩ := J.tuple hx
    have len := r.length
    cases pl; cases pu; cases ps with | int _ t =>
    refine tail_any (ops := [.ref a, .ref s4.heap.objs.size]) ht.typeIs PyProof.Rows.slot_tuple_getitem.lookup ?_ (by with_unfolding_all rfl)
    refine getItem_back ht (Heap.IsSliceOf.new _ .none .none (.int (-1) t)) ?_ (by omega)
    exact ⟨.ref _, _, J.laid (t' := s4.toks) (o := .tup xs.reverse) (fun b ob z => Heap.get?_push_of_some _ z) (Nat.le_refl _) ⟨by rw [List.length_reverse]; exact hz, _, r.reverse, IsTup.new _ _⟩, rfl, q _ (J.hok.fresh (Nat.le_refl _))⟩
end
end DX

/-! DxMb: empty dicts; what is never reached. -/
set_option linter.all false
set_option maxRecDepth 100000
set_option Elab.async false
namespace DX
open PySem PySem.Spec PyProof.Rows L2
variable {X : Cx} {pos : Pos}
/-- {}: data, or an object of the store -/
def mEd (mt : Bool) : EM := fun _ st => if mt then .ok (.loc st.length) (st ++ [.dct []]) else .ok .edct st
theorem de_ed {mt : Bool} : DE X (.Dict [] [] pos) (mEd mt) := fun Wx tk => by
  refine ⟨_, pe_dnewK, ?_⟩
  intro av σ e ρ H st Q s er h
  intro d hd
  cases mt with
  | false => exact h (.ref d) ρ _ (.new hd) (s.new hd) (.edct upd_same (s.nin hd) (s.nav hd))
  | true => exact h (.ref d) (ρ ++ [d]) _ (.push hd) (s.push hd ⟨[], upd_same, .nil⟩) (.loc (by rw [← s.len, List.getElem?_append_right (Nat.le_refl _), Nat.sub_self]; rfl))
/-- nothing is promised of it -/
theorem ds_no {s : Stmt} : DS X s (fun _ _ => .no) := fun Wx tk => ⟨fun _ _ _ => False, ⟨fun _ _ _ _ _ _ h => h.elim⟩, fun av σ e ρ H st D s er h => h.elim⟩
/-- xs[::-1] -/
def backD (mt : Bool) (a : D) (st : Sto) : R D :=
  match a with
  | .tup xs => .ok (.tup xs.reverse) st
  | a => match items st a with
    | some xs => newL mt xs.reverse st
    | none => .no
def mBack (mt : Bool) (a : EM) : EM := fun e st => (a e st).bind fun d st1 => backD mt d st1
theorem de_back {mt : Bool} {a : Expr} {ma : EM} {k : Nat} {p1 p2 p3 : Pos} (ha : DE X a ma) : DE X (.Subscript a (.Slice none none (some (.UnaryOp .USub (.Constant (.int 1) k p1) p2)) p3) pos) (mBack mt ma) := fun Wx tk => by
  obtain ⟨t, p, s1⟩ := ha Wx tk
  refine ⟨_, pe_back p, ?_⟩
  intro av σ e ρ H st Q s er h
  refine s1 av σ e ρ H st _ s er ((Post.bind h).imp ?_)
  rintro v H1 ⟨d, ρ1, st1, x1, s1, r1, q1⟩
  unfold backD at q1
  have fromList : ∀ xs, items st1 d = some xs → Post ⟨X.K, X.mg, av⟩ (Rel ⟨X.K, X.mg, av⟩) (fun c d H => Wx c d σ H) ρ1 H1 Q (newL mt xs.reverse st1) → ∃ a, v = .ref a ∧ ((∃ xs, SqL X.K H1 a xs ∧ ∀ p, H1 p = none → Q (.ref p) (upd H1 p (.lst xs.reverse))) ∨ ∃ xs, SqT X.K H1 a xs ∧ ∀ p, H1 p = none → Q (.ref p) (upd H1 p (.tup xs.reverse))) := by
    intro xs e2 q2
    obtain ⟨a, vs, rfl, h1, rs⟩ := r1.list s1 e2
    exact ⟨a, rfl, .inl ⟨vs, h1, post_newL s1 rs.reverse q2⟩⟩
  split at q1
  · rename_i xs
    obtain ⟨a, vs, rfl, h1, rs⟩ := r1.tuple
    exact ⟨a, rfl, .inr ⟨vs, h1, post_newT s1 rs.reverse q1⟩⟩
  · split at q1
    · rename_i xs e2
      exact fromList xs e2 q1
    · exact q1.elim
end DX

/-! DxMc: a tuple times a number. -/
set_option linter.all false
set_option maxRecDepth 100000
set_option Elab.async false
namespace DX
open PySem PySem.Spec PyProof.Rows L2
open PySem.MeetsSeq
open PySem.AutoSeq1 (wpAny_loadPart')
/-- once: the tuple itself -/
theorem mul_once (l : Addr) (its : Array Value) (n : Nat) (dd : Option Addr) (sl : Array (Option Value)) (u : Tok) :
    Meets (Builtin.«tuple.__mul__» ⟨[.ref l, .int 1 u], []⟩) (fun _ R s => s.heap.get? l = some { cls := .type "tuple", dict := dd, data := .seq its n, slots := sl } ∧ R (.ok (.ret (Value.ref l))) s) :=
  .of_wp fun prog w A R s h => by
    obtain ⟨hp, g, d, tk, os⟩ := s
    obtain ⟨hl, h⟩ := h
    have f1 := AutoSeq1.idx_int
    have e1 : (its.isEmpty || (1 : Int) == 1) = true := by simp
    wp_walk using wpAny_loadPart' hl
    repeat (first
      | (refine wpAny_ite_true (decide_eq_true e1) ?_; wp_walk using wpAny_loadPart' hl)
      | (refine wpAny_ite_true e1 ?_; wp_walk using wpAny_loadPart' hl))
    exact ⟨_, rfl, h⟩
def rMul1 (K : PySem.W.Frag) : R2 := fun x y H Q => ∃ l xs, x = .ref l ∧ y = .int 1 ∧ SqT K H l xs ∧ Q (.ref l) H
theorem op_mul1 {X : Cx} : OpR X (binaryOp .Mult) (rMul1 X.K) := by
  intro pins s σ H x y v u Q I rx ry h
  obtain ⟨l, xs, rfl, rfl, hT, q⟩ := h
  cases rx
  obtain ⟨t, rfl⟩ := ry
  obtain ⟨its, r, ⟨⟨cls, dd, data, sl⟩, ho, hc, n, hd⟩, hs⟩ := I.tuple hT
  simp only at hc hd
  subst hc hd
  refine wpAny_binaryOp_repeat_ref (T := "tuple") (U := "int") (by decide) ⟨_, ho, rfl⟩ (fun s' => typeIs_int s' 1 t) noFill_tuple_mul F.fills_int_mul F.slot_int_rmul repeat_tuple F.slot_int_index.lookup ?_
  have tup : s.TypeIs (.ref l) "tuple" := ⟨_, ho, rfl⟩
  refine call_meets F.slot_int_rmul (typeIs_int s 1 t) F.entry_int_rmul (F.args_int_rmul_2 _ _) (int_rmul_tuple 1 t l its.toArray n dd sl) ⟨ho, rfl, tup, ?_⟩
  exact call_meets F.slot_tuple_mul tup F.entry_tuple_mul (F.args_tuple_mul_2 _ _) (mul_once l its.toArray n dd sl t) ⟨ho, .ref l, H, I, rfl, q⟩
/-- xs * k: whole numbers, a tuple and a number -/
def mulD (a b : D) (st : Sto) : R D :=
  match a, b with
  | .tup xs, .int k => if k = 1 then .ok (.tup xs) st else if xs ≠ [] ∧ 2 ≤ k ∧ k ≤ 1000 ∧ xs.length ≤ 1000 then .ok (.tup (List.replicate k.toNat xs).flatten) st else .no
  | a, b => arD .Mult a b st
def rMulD (K : PySem.W.Frag) : R2 := fun x y H Q => (rAr .Mult x y H Q ∨ rMul1 K x y H Q) ∨ rRepT K x y H Q
theorem op_mulD {X : Cx} : OpR X (binaryOp .Mult) (rMulD X.K) := ((op_ar .Mult).or op_mul1).or op_repT
theorem Rels.flat {W : Wd} {ρ : List Addr} {H : Hp} {xs : List D} {vs : List V} (r : Rels W ρ H xs vs) : ∀ n : Nat, Rels W ρ H (List.replicate n xs).flatten (List.replicate n vs).flatten
  | 0 => .nil
  | n + 1 => by
    rw [List.replicate_succ, List.replicate_succ, List.flatten_cons, List.flatten_cons]
    exact r.append (Rels.flat r n)
theorem snd_mulD {K : PySem.W.Frag} {mg : Str → Option Value} : SndO K mg (rMulD K) mulD := by
  intro av E ρ H st Q a b x y s ra rb h
  unfold mulD at h
  split at h
  · rename_i xs k
    obtain ⟨p, vs, rfl, h1, r1⟩ := ra.tuple
    cases rb
    split at h
    · rename_i e
      subst e
      exact .inl (.inr ⟨p, vs, rfl, rfl, h1, h.ok s ra⟩)
    · split at h
      · rename_i c
        refine .inr ⟨p, k, vs, rfl, rfl, h1, fun e => c.1 ?_, c.2.1, c.2.2.1, by rw [← r1.length]; exact c.2.2.2, fun p hp => ?_⟩
        · subst e; cases r1; rfl
        · exact h (.ref p) ρ _ (.new hp) (s.new hp) (.tup (.inl upd_same) (s.nin hp) (s.nav hp) ((r1.ext (.new hp)).flat k.toNat))
      · exact h.elim
  · exact .inl (.inl (snd_ar .Mult av E ρ H st Q a b x y s ra rb h))
theorem de_mul {X : Cx} {a b : Expr} {ma mb : EM} {pos : Pos} (ha : DE X a ma) (hb : DE X b mb) : DE X (.BinOp a .Mult b pos) (mOp mulD ma mb) := fun Wx tk =>
  let ⟨_, p1, s1⟩ := ha Wx tk
  let ⟨_, p2, s2⟩ := hb Wx tk
  ⟨_, pe_op op_mulD p1 p2, snd_op snd_mulD s1 s2⟩
end DX

/-! DxMl: a written list times a number. -/
set_option linter.all false
set_option maxRecDepth 100000
set_option Elab.async false
namespace DX
open PySem PySem.Spec PyProof.Rows L2
def mLMul (mt : Bool) (ms : List EM) (mb : EM) : EM := fun e st => (mL ms e st).bind fun ds st1 => if fits ds then (mb e st1).bind fun d st2 => match d with
  | .int k => if k ≤ 1000000000 ∧ -1000000000 ≤ k ∧ ds.length * k.toNat ≤ sizeLine then newL mt (List.replicate k.toNat ds).flatten st2 else .no
  | _ => .no
  else .no
theorem snd_lmul {K : PySem.W.Frag} {mg : Str → Option Value} {Wx : WX} {ta : TA} {tb : TE} {ms : List EM} {mb : EM} {mt : Bool} (h1 : SndL K mg ta Wx (mL ms)) (h2 : SndE K mg tb Wx mb) : SndE K mg (tOp L2.rRep (tLst ta) tb) Wx (mLMul mt ms mb) := by
  intro av σ e ρ H st Q s er h
  refine h1 av σ e ρ H st _ s er ((Post.bind h).imp ?_)
  rintro vs H1 ⟨ds, ρ1, st1, x1, s1, r1, q1⟩
  split at q1
  · rename_i hz
    refine ⟨by rw [← r1.length]; exact of_decide_eq_true hz, fun p hp => ?_⟩
    have x2 : Ext ρ1 H1 ρ1 (upd H1 p (.lst vs)) := .new hp
    have np := s1.nin hp
    have nv := s1.nav hp
    refine h2 av σ e ρ1 (upd H1 p (.lst vs)) st1 _ (s1.new hp) ((er.ext x1).ext x2) ((Post.bind (q1.ext x2)).imp ?_)
    rintro w H2 ⟨d, ρ2, st2, x3, s2, r2, q2⟩
    split at q2
    · rename_i k
      split at q2
      · rename_i c
        cases r2
        refine ⟨p, k, vs, rfl, rfl, x3.keep p _ np upd_same nTl, by omega, by omega, by rw [← r1.length]; exact c.2.2, post_newL s2 ((r1.ext x2).ext x3 |>.flat k.toNat) q2⟩
      · exact q2.elim
    · exact q2.elim
  · exact q1.elim
theorem de_lmul {X : Cx} {es : List Expr} {b : Expr} {ms : List EM} {mb : EM} {p pos : Pos} {mt : Bool} (ha : DL X es (mL ms)) (hb : DE X b mb) : DE X (.BinOp (.List es p) .Mult b pos) (mLMul mt ms mb) := fun Wx tk =>
  let ⟨_, p1, s1⟩ := ha Wx tk
  let ⟨_, p2, s2⟩ := hb Wx tk
  ⟨_, pe_op L2.op_rep (pe_lst p1) p2, snd_lmul s1 s2⟩
end DX

/-! DxLc: [.. for .. in .. for .. in ..]. -/
set_option linter.all false
set_option maxRecDepth 100000
set_option Elab.async false
namespace DX
open PySem PySem.Spec PyProof.Rows L2

def compL2 (it : Itr) (n : Nat) (g : GM) (c : TM) (im1 : IM) (vs1 : List Nat) (g1 : GM) (c1 : TM) (f : EM) : Nat → List D → Sl → Sto → R (List D)
  | 0, acc, _, st => if it.len st = some n then .ok acc st else .no
  | r + 1, acc, e, st => if it.len st = some n then
      match it.at st (n - (r + 1)) with
      | some d => match g d e with
        | some e' => match c e' st with
          | .ok true st1 => match im1 e' st1 with
            | .ok it1 st2 => match it1.len st2 with
              | some n1 => match compL it1 n1 g1 c1 f n1 acc (wipeE e' vs1) st2 with
                | .ok acc' st3 => compL2 it n g c im1 vs1 g1 c1 f r acc' e st3
                | _ => .no
              | none => .no
            | _ => .no
          | .ok false st1 => compL2 it n g c im1 vs1 g1 c1 f r acc e st1
          | _ => .no
        | none => .no
      | none => .no
    else .no
def mLc2 (mt : Bool) (im : IM) (vs : List Nat) (g : GM) (c : TM) (im1 : IM) (vs1 : List Nat) (g1 : GM) (c1 : TM) (f : EM) : EM := fun e st => (im e st).bind fun it st1 => match it.len st1 with
  | some n => (compL2 it n g c im1 vs1 g1 c1 f n [] (wipeE e vs) st1).bind (newC mt)
  | none => .no
section
variable {K : PySem.W.Frag} {mg : Str → Option Value} {Wx : WX}
/-- the loop of the second for: J1 walked, D the list, what is held of the first for's turn carried along -/
theorem lc_in {g1 : TG} {tt1 : TT} {te : TE} {vs1 : List Nat} {m1 : GM} {c1 : TM} {f : EM} (hg : SndG K mg g1 m1) (hw : GW g1 vs1) (hm : GMono g1) (hc : SndT K mg tt1 WF c1) (hf : SndE K mg te WF f)
    {av : List Addr} {D : Addr} {H1 H4 : Hp} {ρ1 ρ4 : List Addr} {st4 stF : Sto} {e' e0 : Sl} {σ2 σ0 : L2.St} {it1 it0 : Itr} {J1 J0 : It} {n1 : Nat} {acc0 xs : List DX.D} {va0 : List V} {Nx : Hp → Prop}
    (nD : H1 D = none) (x4 : Ext ρ1 H1 ρ4 H4) (s4 : SR ⟨K, mg, D :: av⟩ ρ4 H4 st4) (e4 : ER ⟨K, mg, D :: av⟩ ρ4 H4 (wipeE e' vs1) (wipe σ2 vs1)) (hD4 : H4 D = some (.lst va0)) (ra4 : Rels ⟨K, mg, D :: av⟩ ρ4 H4 acc0 va0)
    (j4 : JR ⟨K, mg, D :: av⟩ ρ4 H4 it1 J1) (o4 : ER ⟨K, mg, D :: av⟩ ρ4 H4 e0 σ0) (k4 : JR ⟨K, mg, D :: av⟩ ρ4 H4 it0 J0)
    (hF : compL it1 n1 m1 c1 f n1 acc0 (wipeE e' vs1) st4 = .ok xs stF)
    (qF : ∀ ρF HF vF, Ext ρ1 H1 ρF HF → SR ⟨K, mg, D :: av⟩ ρF HF stF → HF D = some (.lst vF) → Rels ⟨K, mg, D :: av⟩ ρF HF xs vF → ER ⟨K, mg, D :: av⟩ ρF HF e0 σ0 → JR ⟨K, mg, D :: av⟩ ρF HF it0 J0 → Nx HF) :
    ∃ W1 : Nat → Nat → Hp → Prop, (∃ m, W1 0 m H4) ∧ ∀ j k H, W1 j k H →
      (J1.stop j H ∧ Nx H) ∨ (J1.go j H ∧ ∃ Nx1 : Hp → Prop, (∀ H', Nx1 H' → ∃ k', k' < k ∧ W1 (j + 1) k' H') ∧ ∀ x H', J1.yld j H x H' → g1 x (wipe σ2 vs1) H' fun σ3 H5 => wipe σ3 vs1 = wipe σ2 vs1 ∧ tt1 σ3 H5 fun b H6 =>
        if b = true then te σ3 H6 fun y H7 => ∃ acc, H7 D = some (.lst acc) ∧ acc.length < sizeLine ∧ Nx1 (upd H7 D (.lst (acc ++ [y]))) else Nx1 H6) := by
  refine ⟨fun i r Hc => i + r = n1 ∧ ∃ acc va ρc stc, Ext ρ1 H1 ρc Hc ∧ SR ⟨K, mg, D :: av⟩ ρc Hc stc ∧ ER ⟨K, mg, D :: av⟩ ρc Hc (wipeE e' vs1) (wipe σ2 vs1) ∧ Hc D = some (.lst va) ∧ Rels ⟨K, mg, D :: av⟩ ρc Hc acc va ∧ JR ⟨K, mg, D :: av⟩ ρc Hc it1 J1 ∧ ER ⟨K, mg, D :: av⟩ ρc Hc e0 σ0 ∧ JR ⟨K, mg, D :: av⟩ ρc Hc it0 J0 ∧ compL it1 n1 m1 c1 f r acc (wipeE e' vs1) stc = .ok xs stF,
    ⟨n1, by omega, acc0, va0, ρ4, st4, x4, s4, e4, hD4, ra4, j4, o4, k4, hF⟩, ?_⟩
  rintro i r Hc ⟨hir, acc, va, ρc, stc, xc, sc, ec, hD, ra, jc, oc, kc, hcomp⟩
  have sc' : SR ((⟨K, mg, av⟩ : Wd).and D) ρc Hc stc := sc
  have nDc : D ∉ ρc := (sc'.avs D List.mem_cons_self).2
  cases r with
  | zero =>
    have h0 : (if it1.len stc = some n1 then (.ok acc stc : R (List DX.D)) else .no) = .ok xs stF := hcomp
    by_cases hl : it1.len stc = some n1
    · rw [if_pos hl] at h0
      cases h0
      have hi' : i = n1 := by omega
      subst hi'
      exact .inl ⟨jc.stop sc hl, qF ρc Hc va xc sc hD ra oc kc⟩
    · rw [if_neg hl] at h0; cases h0
  | succ r =>
    unfold compL at hcomp
    split at hcomp
    · rename_i hl
      have hi' : n1 - (r + 1) = i := by omega
      rw [hi'] at hcomp
      split at hcomp
      · rename_i d hd
        obtain ⟨go, yl⟩ := jc.turn sc hd
        refine .inr ⟨go, fun Hn => i + 1 + r = n1 ∧ ∃ acc va ρc stc, Ext ρ1 H1 ρc Hn ∧ SR ⟨K, mg, D :: av⟩ ρc Hn stc ∧ ER ⟨K, mg, D :: av⟩ ρc Hn (wipeE e' vs1) (wipe σ2 vs1) ∧ Hn D = some (.lst va) ∧ Rels ⟨K, mg, D :: av⟩ ρc Hn acc va ∧ JR ⟨K, mg, D :: av⟩ ρc Hn it1 J1 ∧ ER ⟨K, mg, D :: av⟩ ρc Hn e0 σ0 ∧ JR ⟨K, mg, D :: av⟩ ρc Hn it0 J0 ∧ compL it1 n1 m1 c1 f r acc (wipeE e' vs1) stc = .ok xs stF,
          fun Hn z => ⟨r, Nat.lt_succ_self r, z⟩, fun v H3 y => ?_⟩
        obtain ⟨x3, s3, r3⟩ := yl v H3 y
        split at hcomp
        · rename_i e'' he
          refine hm _ _ _ _ _ (fun σ2 H2 z => z) (hm _ _ _ _ _ ?_ (hw v (wipe σ2 vs1) H3 _ (hg (D :: av) (wipe σ2 vs1) (wipeE e' vs1) ρc H3 stc d v e'' (fun σ3 H2 => ER ⟨K, mg, D :: av⟩ ρc H3 e'' σ3 ∧ H2 = H3) s3 (ec.ext x3) r3 he fun σ3 er2 => ⟨er2, rfl⟩)))
          rintro σ3 H2 ⟨hwp, er2, rfl⟩
          refine ⟨hwp.trans (wipe_wipe σ2 vs1), ?_⟩
          have hD3 : H2 D = some (.lst va) := x3.keep D _ nDc hD nTl
          split at hcomp
          · rename_i st4 hc4
            refine hc (D :: av) σ3 e'' ρc H2 stc _ s3 er2 ?_
            rw [hc4]
            rintro b ρ4 H4 x4 s4 rfl
            rw [if_pos rfl]
            split at hcomp
            · rename_i y st5 hf5
              split at hcomp
              · rename_i hz
                refine hf (D :: av) σ3 e'' ρ4 H4 st4 _ s4 (er2.ext x4) ?_
                rw [hf5]
                intro w ρ5 H5 x5 s5 r5
                have s5' : SR ((⟨K, mg, av⟩ : Wd).and D) ρ5 H5 st5 := s5
                have nD4 : D ∉ ρ4 := ((show SR ((⟨K, mg, av⟩ : Wd).and D) ρ4 H4 st4 from s4).avs D List.mem_cons_self).2
                have hD5 : H5 D = some (.lst va) := x5.keep D _ nD4 (x4.keep D _ nDc hD3 nTl) nTl
                have x35 := (x3.trans x4).trans x5
                have ra5 := ra.ext x35
                refine ⟨va, hD5, by rw [← ra5.length]; exact hz, by omega, acc ++ [y], va ++ [w], ρ5, st5, (xc.trans x35).over nD, s5'.more, (ec.ext x35).mapW fun _ _ r => (show Rel ((⟨K, mg, av⟩ : Wd).and D) ρ5 H5 _ _ from r).more, upd_same, ?_, (jc.ext x35).mapW rfl fun _ _ r => (show Rel ((⟨K, mg, av⟩ : Wd).and D) ρ5 H5 _ _ from r).more,
                  (oc.ext x35).mapW fun _ _ r => (show Rel ((⟨K, mg, av⟩ : Wd).and D) ρ5 H5 _ _ from r).more, (kc.ext x35).mapW rfl fun _ _ r => (show Rel ((⟨K, mg, av⟩ : Wd).and D) ρ5 H5 _ _ from r).more, hcomp⟩
                exact (show Rels ((⟨K, mg, av⟩ : Wd).and D) ρ5 H5 _ _ from ra5.append (.one r5)).more
              · cases hcomp
            · cases hcomp
          · rename_i st4 hc4
            refine hc (D :: av) σ3 e'' ρc H2 stc _ s3 er2 ?_
            rw [hc4]
            rintro b ρ4 H4 x4 s4 rfl
            rw [if_neg (by simp)]
            exact ⟨by omega, acc, va, ρ4, st4, xc.trans (x3.trans x4), s4, ec.ext (x3.trans x4), x4.keep D _ nDc hD3 nTl, ra.ext (x3.trans x4), jc.ext (x3.trans x4), oc.ext (x3.trans x4), kc.ext (x3.trans x4), hcomp⟩
          · cases hcomp
        · cases hcomp
      · cases hcomp
    · cases hcomp
theorem snd_lc2 {mt : Bool} {wi wi1 : TI} {g g1 : TG} {tt tt1 : TT} {te : TE} {vs vs1 : List Nat} {im im1 : IM} {m m1 : GM} {c c1 : TM} {f : EM} (hi : SndI K mg wi Wx im) (hg : SndG K mg g m) (hw : GW g vs) (hm : GMono g) (hc : SndT K mg tt WF c)
    (hi1 : SndI K mg wi1 WF im1) (hg1 : SndG K mg g1 m1) (hw1 : GW g1 vs1) (hm1 : GMono g1) (hc1 : SndT K mg tt1 WF c1) (hf : SndE K mg te WF f) :
    SndE K mg (tLc2 wi g tt wi1 g1 tt1 te vs vs1) Wx (mLc2 mt im vs m c im1 vs1 m1 c1 f) := by
  intro av σ e ρ H st Q s er h
  refine hi av σ e ρ H st _ s er ((Post.bind h).imp ?_)
  rintro J H1 ⟨it, ρ1, st1, x1, s1, j1, q1⟩
  split at q1
  · rename_i n hn
    intro D nD
    have nav : D ∉ av := s1.nav nD
    have fin : ∀ r : R (List DX.D), Post ⟨K, mg, av⟩ (Rel ⟨K, mg, av⟩) (fun c d H => Wx c d σ H) ρ1 H1 Q (r.bind (newC mt)) → (∀ c fs st, r ≠ .exc c fs st) →
        ∃ xs stF, r = .ok xs stF ∧ ∀ ρF HF vF, Ext ρ1 H1 ρF HF → SR ⟨K, mg, D :: av⟩ ρF HF stF → HF D = some (.lst vF) → Rels ⟨K, mg, D :: av⟩ ρF HF xs vF → Q (.ref D) HF := by
      intro r p ne
      cases r with
      | no => exact p.elim
      | exc c fs st => exact absurd rfl (ne c fs st)
      | ok xs stF =>
        refine ⟨xs, stF, rfl, fun ρF HF vF xF sF hF rF => ?_⟩
        have sF' : SR ((⟨K, mg, av⟩ : Wd).and D) ρF HF stF := sF
        have rF' : Rels ((⟨K, mg, av⟩ : Wd).and D) ρF HF xs vF := rF
        have p' : Post ⟨K, mg, av⟩ (Rel ⟨K, mg, av⟩) (fun c d H => Wx c d σ H) ρ1 H1 Q (newL mt xs stF) := p
        have nρ : D ∉ ρF := (sF'.avs D List.mem_cons_self).2
        unfold newL at p'
        cases mt with
        | false =>
          rw [if_neg (by simp)] at p'
          exact p' (.ref D) ρF HF xF sF'.done (.lst (.inl hF) nρ nav rF'.done)
        | true =>
          rw [if_pos rfl] at p'
          have xo : Ext ρ1 H1 (ρF ++ [D]) HF := by
            obtain ⟨l, hl, hl2⟩ := xF.more
            refine ⟨⟨l ++ [D], by rw [hl, List.append_assoc], fun a ha => ?_⟩, xF.keep, xF.there⟩
            rcases List.mem_append.mp ha with z | z
            · exact hl2 a z
            · rw [List.mem_singleton.mp z]; exact nD
          exact p' (.ref D) (ρF ++ [D]) HF xo (sF'.own nav hF rF') (.loc (by rw [← sF.len, List.getElem?_append_right (Nat.le_refl _), Nat.sub_self]; rfl))
    have noexc : ∀ (r : Nat) (acc : List DX.D) (e : Sl) (st : Sto) (k : Str) (fs : List (Str × DX.D)) (s' : Sto), compL2 it n m c im1 vs1 m1 c1 f r acc e st ≠ .exc k fs s' := by
      intro r
      induction r with
      | zero => intro acc e st k fs s' z; unfold compL2 at z; split at z <;> cases z
      | succ r ih =>
        intro acc e st k fs s' z
        unfold compL2 at z
        repeat' split at z
        all_goals first | exact ih _ _ _ _ _ _ z | cases z
    obtain ⟨xs, stF, hF, qF⟩ := fin _ q1 (noexc _ _ _ _)
    have s2 : SR ⟨K, mg, D :: av⟩ ρ1 (upd H1 D (.lst [])) st1 := s1.fill nD
    refine ⟨fun i r Hc => i + r = n ∧ ∃ acc va ρc stc, Ext ρ1 H1 ρc Hc ∧ SR ⟨K, mg, D :: av⟩ ρc Hc stc ∧ ER ⟨K, mg, D :: av⟩ ρc Hc (wipeE e vs) (wipe σ vs) ∧ Hc D = some (.lst va) ∧ Rels ⟨K, mg, D :: av⟩ ρc Hc acc va ∧ JR ⟨K, mg, D :: av⟩ ρc Hc it J ∧ compL2 it n m c im1 vs1 m1 c1 f r acc (wipeE e vs) stc = .ok xs stF,
      ⟨n, by omega, [], [], ρ1, st1, Ext.new nD, s2, ((er.ext x1).mapW (W' := ⟨K, mg, D :: av⟩) (H' := upd H1 D (.lst [])) fun _ _ r => r.fill nD).wipe vs, upd_same, .nil, JR.mapW (W := ⟨K, mg, av⟩) (H := H1) (W' := ⟨K, mg, D :: av⟩) (H' := upd H1 D (.lst [])) rfl (fun _ _ r => r.fill nD) j1, hF⟩, ?_⟩
    rintro i r Hc ⟨hir, acc, va, ρc, stc, xc, sc, ec, hD, ra, jc, hcomp⟩
    have sc' : SR ((⟨K, mg, av⟩ : Wd).and D) ρc Hc stc := sc
    have nDc : D ∉ ρc := (sc'.avs D List.mem_cons_self).2
    cases r with
    | zero =>
      have h0 : (if it.len stc = some n then (.ok acc stc : R (List DX.D)) else .no) = .ok xs stF := hcomp
      by_cases hl : it.len stc = some n
      · rw [if_pos hl] at h0
        cases h0
        have hi' : i = n := by omega
        subst hi'
        exact .inl ⟨jc.stop sc hl, qF ρc Hc va xc sc hD ra⟩
      · rw [if_neg hl] at h0; cases h0
    | succ r =>
      unfold compL2 at hcomp
      split at hcomp
      · rename_i hl
        have hi' : n - (r + 1) = i := by omega
        rw [hi'] at hcomp
        split at hcomp
        · rename_i d hd
          obtain ⟨go, yl⟩ := jc.turn sc hd
          refine .inr ⟨go, fun Hn => i + 1 + r = n ∧ ∃ acc va ρc stc, Ext ρ1 H1 ρc Hn ∧ SR ⟨K, mg, D :: av⟩ ρc Hn stc ∧ ER ⟨K, mg, D :: av⟩ ρc Hn (wipeE e vs) (wipe σ vs) ∧ Hn D = some (.lst va) ∧ Rels ⟨K, mg, D :: av⟩ ρc Hn acc va ∧ JR ⟨K, mg, D :: av⟩ ρc Hn it J ∧ compL2 it n m c im1 vs1 m1 c1 f r acc (wipeE e vs) stc = .ok xs stF,
            fun Hn z => ⟨r, Nat.lt_succ_self r, z⟩, fun v H3 y => ?_⟩
          obtain ⟨x3, s3, r3⟩ := yl v H3 y
          split at hcomp
          · rename_i e' he
            refine hm _ _ _ _ _ (fun σ2 H2 z => z) (hm _ _ _ _ _ ?_ (hw v (wipe σ vs) H3 _ (hg (D :: av) (wipe σ vs) (wipeE e vs) ρc H3 stc d v e' (fun σ2 H2 => ER ⟨K, mg, D :: av⟩ ρc H3 e' σ2 ∧ H2 = H3) s3 (ec.ext x3) r3 he fun σ2 er2 => ⟨er2, rfl⟩)))
            rintro σ2 H2 ⟨hwp, er2, rfl⟩
            refine ⟨hwp.trans (wipe_wipe σ vs), ?_⟩
            have hD3 : H2 D = some (.lst va) := x3.keep D _ nDc hD nTl
            split at hcomp
            · rename_i st4 hc4
              refine hc (D :: av) σ2 e' ρc H2 stc _ s3 er2 ?_
              rw [hc4]
              rintro b ρ4 H4 x4 s4 rfl
              rw [if_pos rfl]
              split at hcomp
              · rename_i it1 st5 hi5
                split at hcomp
                · rename_i n1 hn1
                  split at hcomp
                  · rename_i acc' st6 h6
                    refine hi1 (D :: av) σ2 e' ρ4 H4 st4 _ s4 (er2.ext x4) ?_
                    rw [hi5]
                    intro J1 ρ5 H5 x5 s5 j5
                    have nD4 : D ∉ ρ4 := ((show SR ((⟨K, mg, av⟩ : Wd).and D) ρ4 H4 st4 from s4).avs D List.mem_cons_self).2
                    have hD5 : H5 D = some (.lst va) := x5.keep D _ nD4 (x4.keep D _ nDc hD3 nTl) nTl
                    have x35 := (x3.trans x4).trans x5
                    exact lc_in hg1 hw1 hm1 hc1 hf nD (xc.trans x35) s5 (((er2.ext x4).ext x5).wipe vs1) hD5 (ra.ext x35) j5 (ec.ext x35) (jc.ext x35) h6
                      fun ρF HF vF xF sF hDF rF oF kF => ⟨by omega, acc', vF, ρF, st6, xF, sF, oF, hDF, rF, kF, hcomp⟩
                  · cases hcomp
                · cases hcomp
              · cases hcomp
            · rename_i st4 hc4
              refine hc (D :: av) σ2 e' ρc H2 stc _ s3 er2 ?_
              rw [hc4]
              rintro b ρ4 H4 x4 s4 rfl
              rw [if_neg (by simp)]
              exact ⟨by omega, acc, va, ρ4, st4, xc.trans (x3.trans x4), s4, ec.ext (x3.trans x4), x4.keep D _ nDc hD3 nTl, ra.ext (x3.trans x4), jc.ext (x3.trans x4), hcomp⟩
            · cases hcomp
          · cases hcomp
        · cases hcomp
      · cases hcomp
  · exact q1.elim
/-- one reading of what is walked, for all contexts -/
def iOf (K : PySem.W.Frag) (mg : Str → Option Value) (Wx : WX) (m : IM) : TI := fun σ H R => ∃ av e ρ st, SR ⟨K, mg, av⟩ ρ H st ∧ ER ⟨K, mg, av⟩ ρ H e σ ∧ Post ⟨K, mg, av⟩ (JR ⟨K, mg, av⟩) (fun c d H => Wx c d σ H) ρ H R (m e st)
theorem snd_iOf {m : IM} : SndI K mg (iOf K mg Wx m) Wx m := fun av σ e ρ H st Q s er h => ⟨av, e, ρ, st, s, er, h⟩
theorem DI.pi {X : Cx} {tg e : Expr} {m : IM} {Wx : WX} (h : DI X tg e m) (tk : Takes X Wx) : PI X tg e (iOf X.K X.mg Wx m) := by
  obtain ⟨t, p, s⟩ := h Wx tk
  exact ⟨fun pins sh σ H Q I ⟨av, e, ρ, st, sr, er, q⟩ => p.run pins sh σ H Q I (s av σ e ρ H st Q sr er q)⟩
end
variable {X : Cx} {elt tg iter tg1 iter1 : Expr} {ifs ifs1 : List Expr} {scope : Scope} {own : List (Str × Nat)} {mt : Bool} {im im1 : IM} {t t1 : Tg} {tc tc1 : TM} {me : EM} {pos : Pos}
theorem de_lc2 (hc : X.calm = true) (hN : X.N.Nodup) (hi : DI X tg iter im) (ok : blkC X.N X.env.scope scope own = true) (hat : ∀ i ∈ t.at, i ∈ own.map (·.2)) (hat1 : ∀ i ∈ t1.at, i ∈ own.map (·.2))
    (hg : ∀ s H C cl fp, PG (bk X scope s H C cl fp) tg (t.g X.K)) (ht : ∀ s H C cl fp, DTs (bk X scope s H C cl fp) ifs tc) (hi1 : ∀ s H C cl fp, DI (bk X scope s H C cl fp) tg1 iter1 im1)
    (hg1 : ∀ s H C cl fp, PG (bk X scope s H C cl fp) tg1 (t1.g X.K)) (ht1 : ∀ s H C cl fp, DTs (bk X scope s H C cl fp) ifs1 tc1) (he : ∀ s H C cl fp, DE (bk X scope s H C cl fp) elt me) (ns : isSet iter = false) (ns1 : isSet iter1 = false) (s0 : Shared) :
    DE X (.ListComp elt [⟨tg, iter, ifs, 0⟩, ⟨tg1, iter1, ifs1, 0⟩] scope pos) (mLc2 mt im (own.map (·.2)) t.m tc im1 t1.at t1.m tc1 me) := fun Wx tk => by
  obtain ⟨w, p1, s1⟩ := hi Wx tk
  exact ⟨_, pe_lc2 hc hN p1 (blkOk_by ok) hat1 hg (fun s H C cl fp => (ht s H C cl fp).pts takes0) (fun s H C cl fp => (hi1 s H C cl fp).pi takes0) hg1 (fun s H C cl fp => (ht1 s H C cl fp).pts takes0) (fun s H C cl fp => (he s H C cl fp).pe takes0) (fold_no ns) (fun env => fold_no ns1),
    snd_lc2 s1 (Tg.snd t) (Tg.keeps t hat) (Tg.mono t) (DTs.snd (X := bk X scope s0 X.H_0 0 [] []) (ht s0 X.H_0 0 [] [])) snd_iOf (Tg.snd t1) (Tg.keeps t1 fun i h => h) (Tg.mono t1) (DTs.snd (X := bk X scope s0 X.H_0 0 [] []) (ht1 s0 X.H_0 0 [] [])) snd_tOf⟩
end DX

/-! DxKs: sorted(x), x the module's own dict of words. -/
set_option linter.all false
set_option maxRecDepth 100000
set_option Elab.async false
namespace DX
open PySem PySem.Spec PyProof.Rows L2
def kdWords (kvs : List (Str × D)) : List D := (kvs.map fun p => D.str p.1).mergeSort leD
def mKdSort (kvs : List (Str × D)) : EM := fun _ st => .ok (.lst (kdWords kvs)) st
def wordsV (ks : List Str) : List (V × PyData) := ks.map fun k => (V.str k, PyData.str k)
abbrev leS (a b : Str) : Bool := PySem.W.dataLe false (fun k : Str => PyData.str k) a b
theorem wordsV_sort (ks : List Str) : ((wordsV ks).mergeSort leV).map (·.1) = (ks.mergeSort leS).map V.str := by
  have e : (wordsV ks).mergeSort leV = (ks.mergeSort leS).map fun k => (V.str k, PyData.str k) :=
    (List.map_mergeSort (f := fun k : Str => (V.str k, PyData.str k)) (r := leS) (s := leV) (l := ks) (fun _ _ _ _ => rfl)).symm
  rw [e, List.map_map]
  rfl
theorem kdWords_sort (kvs : List (Str × D)) : kdWords kvs = ((kvs.map (·.1)).mergeSort leS).map D.str := by
  unfold kdWords
  have e : (kvs.map fun p => D.str p.1) = (kvs.map (·.1)).map D.str := by rw [List.map_map]; rfl
  rw [e]
  exact (List.map_mergeSort (f := D.str) (r := leS) (s := leD) (l := kvs.map (·.1)) (fun _ _ _ _ => rfl)).symm
def rKdS (a : Addr) (ks : List Str) : List V → Hp → VK → Prop := fun xs H Q => xs = [.ref a] ∧ ∀ p, H p = none → Q (.ref p) (upd H p (.lst (((wordsV ks).mergeSort leV).map (·.1))))
theorem each_strs : ∀ {us : List Value} {ks : List Str}, StrsAre us ks → PySem.W.EachIs (fun u (b : V × PyData) => RelV b.1 u) us (wordsV ks)
  | _, _, .nil => .nil
  | _, _, .cons y t h => .cons ⟨t, rfl⟩ (each_strs h)
theorem each_strsR {h : Heap} {B : Addr} : ∀ {us : List Value} {ks : List Str}, StrsAre us ks → PySem.W.EachIs (fun u (b : V × PyData) => ∃ as, Reads h u b.2 as ∧ B ∉ as) us (wordsV ks)
  | _, _, .nil => .nil
  | _, _, .cons y t h => .cons ⟨_, Reads.str y t, by simp⟩ (each_strsR h)
theorem words_alike (ks : List Str) : PySem.W.AllAlike ((wordsV ks).map (·.2)) := alikeAll_ok (by
  unfold alikeAllB wordsV
  rw [List.map_map, List.all_map, List.all_eq_true]
  intro s _
  show (List.all (ks.map fun k => PyData.str k) fun q => PySem.W.alike (.str s) q) = true
  rw [List.all_map, List.all_eq_true]
  intro t _
  rfl)
theorem words_sortable (ks : List Str) : PySem.W.Sortable ((wordsV ks).map (·.2)) := sortable_ok (by
  unfold sortableB wordsV
  rw [Bool.or_eq_true, List.map_map]
  right
  rw [List.all_map, List.all_eq_true]
  intro t _
  rfl)
theorem cr_kdsort {X : Cx} (hcalm : X.calm = true) (hu : X.A.units + 70 < cLine) {a : Addr} {o : Obj} {es : Array DictEntry} {ep : Nat} {vs : List (Key × Value)} {ks : List Str} (lo : (a == sysModules) = false) (l : X.K.lookup a = some o) (c : o.ExactDict) (d : o.data = .dict es ep)
    (kk : KeysOf (mixKind X.prog X.w) es) (ps : Pairs (mixKind X.prog X.w) es.toList vs) (nd : (vs.map (·.1)).Nodup) (hkeys : vs.map (·.1) = ks.map Sum.inr) (h64 : ks.length < 64) : CallR X (.builtin "sorted") (rKdS a ks) := by
  intro pins s σ H xs us Q I r q
  obtain ⟨ex, q⟩ := q
  subst ex
  rw [Vals.ref1 r]
  obtain ⟨ep, hat⟩ := (kd_dictOf I.kIn l c d kk ps nd).dictAt
  have hl : vs.length = ks.length := by
    have e := congrArg List.length hkeys
    rw [List.length_map, List.length_map] at e
    exact e
  have h16 : vs.length ≤ sizeLine := by rw [hl, sizeLine_eq]; omega
  refine Calls.call_function_entry PyProof.Rows.kind_sorted PyProof.Rows.plain_sorted PyProof.Rows.entry_sorted (PyProof.Rows.args_sorted1 _) ?_
  unfold Builtin.«sorted»
  refine wpAny_bind (m := checkCount "sorted" 1 1 _) (wpAny_pure ?_)
  refine wpAny_bind (PySem.W.kdu_collect (A := X.A.in1) (PySem.W.kdl_dict (knd := mixKind X.prog X.w) (kvs := vs) (ep := ep) lo) (I.ok.hd hcalm) hat h16 fun h' tk acc hk hacc => ?_)
  have hal : acc.toList.length = ks.length := by rw [Array.length_toList, hacc.1, hl]
  have hS : StrsAre acc.toList ks := strs_at hal fun j v e => by
    obtain ⟨k, x, e1, e2⟩ := hacc.2 j v (by rw [← Array.getElem?_toList]; exact e)
    have e3 : (vs.map (·.1))[j]? = some k := by rw [List.getElem?_map, e1]; all_goals rfl
    rw [hkeys, List.getElem?_map] at e3
    cases e4 : ks[j]? with
    | none => rw [e4] at e3; cases e3
    | some y =>
      rw [e4] at e3
      have e5 : Sum.inr y = k := Option.some.inj e3
      subst e5
      obtain ⟨t, ev⟩ := Value.isStrOf_shape (x := y) (v := v) e2
      exact ⟨y, t, rfl, ev⟩
  have I1 : Inv X pins σ H { s with heap := h', toks := tk } := I.kept hk
  refine wpAny_bind (wpAny_newList ?_ (by rw [hal, sizeLine_eq]; omega))
  have hoL : (h'.push (seqObj "list" acc.toList.toArray 0)).get? h'.objs.size = some (seqObj "list" acc.toList.toArray 0) := Heap.get?_push_size _ rfl
  show wpAny _ _ _ _ _ { s with heap := h'.push (seqObj "list" acc.toList.toArray 0), toks := tk }
  refine wpAny_bind (wpAny_holding (PySem.W.list_sort_data (s := { s with heap := h'.push (seqObj "list" acc.toList.toArray 0), toks := tk }) (enc := fun b : V × PyData => b.2) (R := fun u b => RelV b.1 u) hoL (each_strs hS) (each_strsR hS) (words_alike ks) (words_sortable ks) (by unfold wordsV; rw [List.length_map, sizeLine_eq]; omega) (fun b hb => ?_) fun out ho eo => ?_))
  · obtain ⟨k, _, rfl⟩ := List.mem_map.mp hb
    show X.A.in1.units + 1 + PyData.depth (.str k) < cLine
    have e1 : PyData.depth (.str k) ≤ 1 := by unfold PyData.depth; omega
    have e2 : X.A.in1.units = X.A.units + 1 := rfl
    omega
  have rv' : Vals (((wordsV ks).mergeSort leV).map (·.1)) out := vals_each eo
  obtain ⟨e', he'⟩ := PyProof.Rows.sortedHeap_at (vs := acc.toList) (out := out.toArray) hoL
  have hlen : (((wordsV ks).mergeSort leV).map (·.1)).length ≤ sizeLine := by
    rw [List.length_map, List.length_mergeSort]
    unfold wordsV
    rw [List.length_map, sizeLine_eq]
    omega
  refine wpAny_pure ⟨_, rfl, .ref h'.objs.size, upd H h'.objs.size (.lst (((wordsV ks).mergeSort leV).map (·.1))), I1.laid (t' := tk) (fun b u e => ?_) (Nat.le_refl _)
    ⟨hlen, out, e', rv', he'⟩, rfl, q _ (I1.hok.fresh (Nat.le_refl _))⟩
  have hb : b < h'.objs.size := Heap.lt_size e
  rw [PyProof.Rows.sortedHeap_old (Nat.ne_of_lt hb) (by rw [size_push']; exact Nat.lt_succ_of_lt hb)]
  exact Heap.get?_push_of_some _ e
theorem paired_keys {R : D → Value → Prop} : ∀ {kvs : List (Str × D)} {vs : List (Key × Value)}, Paired (fun p q => q.1 = Sum.inr p.1 ∧ R p.2 q.2) kvs vs → vs.map (·.1) = (kvs.map (·.1)).map Sum.inr
  | _, _, .nil => rfl
  | _, _, .cons (a := p) (b := q) h t => by rw [List.map_cons, List.map_cons, List.map_cons, h.1, paired_keys t]
theorem rels_strs {W : Wd} {ρ : List Addr} {H : Hp} : ∀ ks : List Str, Rels W ρ H (ks.map D.str) (ks.map V.str)
  | [] => .nil
  | k :: ks => .cons (.str k) (rels_strs ks)
theorem de_kdsort {X : Cx} {x : Str} {kvs : List (Str × D)} {p p2 pos : Pos} (hg : Gl X x) (h1 : (x == ("__debug__" : Str)) = false) (kd : KD X.prog X.w X.K X.mg x kvs) (hs : Gl X "sorted") (hm : X.mg "sorted" = none) (hc : X.calm = true) (hu : X.A.units + 70 < cLine) (few : kvs.length < 64) :
    DE X (.Call (.Name "sorted" p) [.Name x p2] [] pos) (mKdSort kvs) := fun Wx tk => by
  obtain ⟨a, o, es, ep, vs, hmx, hd, l, c, d, ks, ps, nd, pr⟩ := kd
  have pn : PE X (.Name x p2) (fun σ H Q => Q (.ref a) H) := ⟨fun pins s σ H Q I h => ld_glob I hg hmx ⟨.ref a, H, I, rfl, h⟩ h1⟩
  refine ⟨_, pe_callB (cr_kdsort hc hu hd l c d ks ps nd (paired_keys (R := fun d u => ∃ v, RelV v u ∧ ∀ av ρ H, Rel ⟨X.K, X.mg, av⟩ ρ H d v) pr) (by rw [List.length_map]; exact few)) hs hm (by decide +kernel) (pa_cons pn pa_nil (star_cons rfl)) (by decide +kernel) (by decide +kernel) (star_cons rfl) (star_any rfl), ?_⟩
  intro av σ e ρ H st Q s er h
  refine ⟨rfl, fun q nq => ?_⟩
  rw [wordsV_sort]
  unfold mKdSort at h
  rw [kdWords_sort] at h
  exact post_newL (mt := false) s (rels_strs _) h q nq
end DX

/-! DxM: the steps of the turning, expressions and statements. -/
set_option linter.all false
set_option maxRecDepth 100000
set_option Elab.async false
namespace DX
open PySem PySem.Spec PyProof.Rows L2
variable {X : Cx} {C : Ctx}

mutual
theorem cTg_ok (g : Good X C) : ∀ {n : Nat} {e : Expr} {t : Tg}, cTg C n e = some t → PG X e (t.g X.K)
  | n, .Name x p, t, h => by
    unfold cTg at h
    split at h
    · rename_i ht
      cases z : isIdx C.N x with
      | none => simp [z] at h
      | some i =>
        simp [z] at h; subst h
        obtain ⟨h1, h2⟩ := g.tgs x ht
        exact pg_name g.nd (by rw [g.hN]; exact isIdx_get z) h1 h2
    · cases h
  | n + 1, .Tuple es k p, t, h => by
    unfold cTg at h
    cases z : cTgs C n es with
    | none => simp [z] at h
    | some l =>
      simp [z] at h; subst h
      obtain ⟨h1, h2, h3⟩ := cTgs_ok g z
      exact pg_tupT g.calm h1 h2 h3
theorem cTgs_ok (g : Good X C) : ∀ {n : Nat} {es : List Expr} {l : Tgs}, cTgs C n es = some l → PGs X es (l.g X.K) ∧ es.all (fun e => !isStar e) = true ∧ l.len = es.length
  | n, [], l, h => by unfold cTgs at h; cases h; exact ⟨pgs_nil, rfl, rfl⟩
  | n, e :: es, l, h => by
    unfold cTgs at h
    split at h
    · cases h
    · rename_i st
      have st' : isStar e = false := by simpa using st
      split at h
      · rename_i t ht
        split at h
        · rename_i l' hl
          cases h
          obtain ⟨h1, h2, h3⟩ := cTgs_ok g hl
          exact ⟨pg_cons (cTg_ok g ht) h1 st', by rw [List.all_cons, h2, st']; rfl, by show l'.len + 1 = _; rw [h3]; rfl⟩
        · cases h
      · cases h
end

/-! ### what is walked -/
def isTupE : Expr → Bool
  | .Tuple _ _ _ => true
  | _ => false
def cI (fe : FE) (C : Ctx) (tg : Expr) (iter : Expr) : Option IM :=
  match iter with
  | .Call (.Name x _) [a] [] _ =>
    if x = "range" ∧ isGl C.sc x = true ∧ isStar a = false then (fe C false a).map imR1
    else if x = "enumerate" ∧ isGl C.sc x = true ∧ isStar a = false ∧ isTupE tg = true then (fe C false a).map imEnum
    else (fe C false iter).map imSeq
  | .Call (.Name x _) [a, b] [] _ =>
    if x = "range" ∧ isGl C.sc x = true ∧ isStar a = false ∧ isStar b = false then match fe C false a, fe C false b with
      | some m, some n => some (imR2 m n)
      | _, _ => none
    else if x = "zip" ∧ isGl C.sc x = true ∧ isStar a = false ∧ isStar b = false ∧ isTupE tg = true then match fe C false a, fe C false b with
      | some m, some n => some (imZip m n)
      | _, _ => none
    else (fe C false iter).map imSeq
  | e => (fe C false e).map imSeq
theorem cI_seq {fe : FE} (hf : SoundE fe) (g : Good X C) {tg iter : Expr} {m : IM} (h : (fe C false iter).map imSeq = some m) : DI X tg iter m := by
  cases z : fe C false iter with
  | none => simp [z] at h
  | some n => simp [z] at h; subst h; exact di_seq (hf C false _ _ z X g)
theorem cI_ok {fe : FE} (hf : SoundE fe) (g : Good X C) {tg iter : Expr} {m : IM} (h : cI fe C tg iter = some m) : DI X tg iter m := by
  unfold cI at h
  split at h
  · rename_i x p a pos
    split at h
    · rename_i c
      obtain ⟨rfl, c2, c3⟩ := c
      cases z : fe C false a with
      | none => simp [z] at h
      | some n => simp [z] at h; subst h; exact di_range1 (g.gl c2) (g.blt _ (by decide +kernel)) (hf C false _ _ z X g) c3
    · split at h
      · rename_i c
        obtain ⟨rfl, c2, c3, c4⟩ := c
        cases z : fe C false a with
        | none => simp [z] at h
        | some n =>
          simp [z] at h; subst h
          cases tg with
          | Tuple ts k tp => exact di_enum (g.gl c2) (g.blt _ (by decide +kernel)) (hf C false _ _ z X g) c3
          | _ => cases c4
      · exact cI_seq hf g h
  · rename_i x p a b pos
    split at h
    · rename_i c
      obtain ⟨rfl, c2, c3, c4⟩ := c
      split at h
      · rename_i m1 m2 z1 z2
        cases h
        exact di_range2 (g.gl c2) (g.blt _ (by decide +kernel)) (hf C false _ _ z1 X g) (hf C false _ _ z2 X g) c3 c4
      · cases h
    · split at h
      · rename_i c
        obtain ⟨rfl, c2, c3, c4, c5⟩ := c
        split at h
        · rename_i m1 m2 z1 z2
          cases h
          cases tg with
          | Tuple ts k tp => exact di_zip (g.gl c2) (g.blt _ (by decide +kernel)) (hf C false _ _ z1 X g) (hf C false _ _ z2 X g) c3 c4
          | _ => cases c5
        · cases h
      · exact cI_seq hf g h
  · exact cI_seq hf g h

/-! ### comprehensions -/
/-- the names of a block that are its own -/
def ownOf (N : List Str) (scope : Scope) : List (Str × Nat) := scope.names.filterMap fun y => match y.2 with
  | .local | .cell => (isIdx N y.1).map fun i => (y.1, i)
  | _ => none
def isOwn (scope : Scope) (x : Str) : Bool := match scope.names.lookup x with
  | some .local | some .cell => true
  | _ => false
def Ctx.blk (C : Ctx) (scope : Scope) : Ctx := { C with sc := relS scope C.sc, tg := isOwn scope, self := "" }
theorem Good.blk (g : Good X C) (scope : Scope) (s : Shared) (H : Hp) (D : Addr) (cl : List (Str × Addr)) (fp : List Addr) : Good (bk X scope s H D cl fp) (C.blk scope) where
  hN := g.hN
  nd := g.nd
  sc := by
    show relS scope X.env.scope = relS scope C.sc
    rw [g.sc]
  calm := g.calm
  free := g.free
  units := g.units
  sh := g.sh
  tgs := fun x h => by
    have h' : isOwn scope x = true := h
    unfold isOwn at h'
    show Loc (relS scope X.env.scope) x ∧ ((scope.names.lookup x == some .cell) = true ∨ (relS scope X.env.scope).names.lookup x = some .local)
    cases q : scope.names.lookup x with
    | none => rw [q] at h'; cases h'
    | some k => cases k with
      | «local» => exact ⟨.inl (lookup_relS_keep (by decide) q), .inr (lookup_relS_keep (by decide) q)⟩
      | cell => exact ⟨.inr (lookup_relS_keep (by decide) q), .inl (by decide)⟩
      | free => rw [q] at h'; cases h'
      | globalExplicit => rw [q] at h'; cases h'
      | globalImplicit => rw [q] at h'; cases h'
  fn := g.fn
  const := g.const
  blt := g.blt
  exn := g.exn
  room := g.room
  gen := fun h => absurd (show ("" : Str) ∈ tbNames from h) (by decide)
def cIfs (ft : FT) (C : Ctx) : List Expr → Option TM
  | [] => some fun _ st => .ok true st
  | [c] => ft C c
  | _ => none
structure LcP where
  im : IM
  own : List (Str × Nat)
  t : Tg
  tc : TM
  me : EM
/-- the parts of a comprehension of one for -/
def cLc (fe : FE) (ft : FT) (C : Ctx) (mt : Bool) (elt : Expr) (gens : List Comprehension) (scope : Scope) : Option LcP :=
  match gens with
  | [⟨tg, iter, ifs, 0⟩] =>
    if blkC C.N C.sc scope (ownOf C.N scope) = true ∧ isSet iter = false then
      match cTg (C.blk scope) 3 tg, cI fe C tg iter, cIfs ft (C.blk scope) ifs, fe (C.blk scope) mt elt with
      | some t, some im, some tc, some me => if t.at.all (fun i => ((ownOf C.N scope).map (·.2)).contains i) = true then some ⟨im, ownOf C.N scope, t, tc, me⟩ else none
      | _, _, _, _ => none
    else none
  | _ => none
theorem cLc_ok {fe : FE} {ft : FT} (hf : SoundE fe) (ht : SoundT ft) (g : Good X C) {elt : Expr} {gens : List Comprehension} {scope : Scope} {mt : Bool} {P : LcP} (h : cLc fe ft C mt elt gens scope = some P) :
    ∃ tg iter ifs, gens = [⟨tg, iter, ifs, 0⟩] ∧ DI X tg iter P.im ∧ blkC X.N X.env.scope scope P.own = true ∧ (∀ i ∈ P.t.at, i ∈ P.own.map (·.2)) ∧ (∀ s H D cl fp, PG (bk X scope s H D cl fp) tg (P.t.g X.K)) ∧
      (∀ s H D cl fp, DTs (bk X scope s H D cl fp) ifs P.tc) ∧ (∀ s H D cl fp, DE (bk X scope s H D cl fp) elt P.me) ∧ isSet iter = false := by
  unfold cLc at h
  split at h
  · rename_i tg iter ifs
    split at h
    · rename_i c
      split at h
      · rename_i t im tc me z1 z2 z3 z4
        split at h
        · rename_i q
          cases h
          refine ⟨tg, iter, ifs, rfl, cI_ok hf g z2, by rw [g.hN, g.sc]; exact c.1, fun i hi => ?_, fun s H D cl fp => cTg_ok (g.blk scope s H D cl fp) z1, fun s H D cl fp => ?_, fun s H D cl fp => hf _ _ _ _ z4 _ (g.blk scope s H D cl fp), c.2⟩
          · have := List.all_eq_true.mp q i hi
            simpa using this
          · unfold cIfs at z3
            split at z3
            · cases z3; exact .inl ⟨rfl, rfl⟩
            · rename_i c'; exact .inr ⟨c', rfl, ht _ _ _ z3 _ (g.blk scope s H D cl fp)⟩
            · cases z3
        · cases h
      · cases h
    · cases h
  · cases h

/-- the parts of a comprehension of two fors -/
def cLc2 (fe : FE) (ft : FT) (C : Ctx) (mt : Bool) (elt : Expr) (gens : List Comprehension) (scope : Scope) : Option EM :=
  match gens with
  | [⟨tg, iter, ifs, 0⟩, ⟨tg1, iter1, ifs1, 0⟩] =>
    if blkC C.N C.sc scope (ownOf C.N scope) = true ∧ isSet iter = false ∧ isSet iter1 = false then
      match cTg (C.blk scope) 3 tg, cI fe C tg iter, cIfs ft (C.blk scope) ifs, fe (C.blk scope) mt elt with
      | some t, some im, some tc, some me => match cTg (C.blk scope) 3 tg1, cI fe (C.blk scope) tg1 iter1, cIfs ft (C.blk scope) ifs1 with
        | some t1, some im1, some tc1 =>
          if t.at.all (fun i => ((ownOf C.N scope).map (·.2)).contains i) = true ∧ t1.at.all (fun i => ((ownOf C.N scope).map (·.2)).contains i) = true then some (mLc2 mt im ((ownOf C.N scope).map (·.2)) t.m tc im1 t1.at t1.m tc1 me) else none
        | _, _, _ => none
      | _, _, _, _ => none
    else none
  | _ => none
theorem cIfs_ok {ft : FT} (ht : SoundT ft) {C : Ctx} {X : Cx} (g : Good X C) {ifs : List Expr} {m : TM} (h : cIfs ft C ifs = some m) : DTs X ifs m := by
  unfold cIfs at h
  split at h
  · cases h; exact .inl ⟨rfl, rfl⟩
  · rename_i c'; exact .inr ⟨c', rfl, ht _ _ _ h _ g⟩
  · cases h
theorem cLc2_ok {fe : FE} {ft : FT} (hf : SoundE fe) (ht : SoundT ft) (g : Good X C) {elt : Expr} {gens : List Comprehension} {scope : Scope} {mt : Bool} {pos : Pos} {m : EM} (h : cLc2 fe ft C mt elt gens scope = some m) : DE X (.ListComp elt gens scope pos) m := by
  unfold cLc2 at h
  split at h
  · split at h
    · rename_i c
      split at h
      · rename_i t im tc me z1 z2 z3 z4
        split at h
        · rename_i t1 im1 tc1 y1 y2 y3
          split at h
          · rename_i q
            cases h
            exact de_lc2 g.calm g.nd (cI_ok hf g z2) (by rw [g.hN, g.sc]; exact c.1) (fun i hi => by simpa using List.all_eq_true.mp q.1 i hi) (fun i hi => by simpa using List.all_eq_true.mp q.2 i hi)
              (fun s H D cl fp => cTg_ok (g.blk scope s H D cl fp) z1) (fun s H D cl fp => cIfs_ok ht (g.blk scope s H D cl fp) z3) (fun s H D cl fp => cI_ok hf (g.blk scope s H D cl fp) y2)
              (fun s H D cl fp => cTg_ok (g.blk scope s H D cl fp) y1) (fun s H D cl fp => cIfs_ok ht (g.blk scope s H D cl fp) y3) (fun s H D cl fp => hf _ _ _ _ z4 _ (g.blk scope s H D cl fp)) c.2.1 c.2.2 (Classical.choice g.sh)
          · cases h
        · cases h
      · cases h
    · cases h
  · cases h

/-! ### one step of expressions and tests -/
def stepE (fe : FE) (ft : FT) : FE := fun C mt e => match e with
  | .Constant (.int i) _ _ => some (mC (.int i))
  | .Constant (.bool i) _ _ => some (mC (.bl i))
  | .Constant .none _ _ => some (mC .non)
  | .Constant (.str i) _ _ => some (mC (.str i))
  | .Name x _ => cName C x
  | .Tuple es _ _ => (cL (fe C false) es).map mTup
  | .List es _ => (cL (fe C false) es).map (mLst mt)
  | .Dict [] [] _ => some (mEd mt)
  | .Dict ks vs _ => if ks ≠ [] ∧ ks.length ≤ 15 then (cPs (fe C false) (fe C true) ks vs).map mDict else none
  | .BinOp a .Add b _ => match fe C false a, fe C false b with
    | some m, some n => some (mOp (addD mt) m n)
    | _, _ => none
  | .BinOp (.List es _) .Mult b _ => match cL (fe C false) es, fe C false b with
    | some ms, some n => some (mLMul mt ms n)
    | _, _ => none
  | .BinOp a .Mult b _ => match fe C false a, fe C false b with
    | some m, some n => some (mOp mulD m n)
    | _, _ => none
  | .BinOp a op b _ => match fe C false a, fe C false b with
    | some m, some n => some (mOp (arD op) m n)
    | _, _ => none
  | .UnaryOp .USub a _ => (fe C false a).map mNeg
  | .UnaryOp .Not a _ => (fe C false a).map mNot
  | .BoolOp op vs _ => cBool (fe C false) op vs
  | .Compare a [op] [b] _ => if isSet b = false then match fe C false a, fe C false b with
      | some m, some n => some (mOp (cmpD op) m n)
      | _, _ => none
    else none
  | .Compare a [op, op'] [b, c] _ => if isSet c = false then match fe C false a, fe C false b, fe C false c with
      | some m, some n, some k => some (mChain op op' m n k)
      | _, _, _ => none
    else none
  | .IfExp c a b _ => match ft C c, fe C mt a, fe C mt b with
    | some k, some m, some n => some (mIf k m n)
    | _, _, _ => none
  | .Subscript a (.Slice none none (some (.UnaryOp .USub (.Constant (.int 1) _ _) _)) _) _ => (fe C false a).map (mBack mt)
  | .Subscript a (.Slice lo hi none _) _ => match fe C false a, cP (fe C false) lo, cP (fe C false) hi with
    | some m, some l, some u => some (mSlice mt m l u)
    | _, _, _ => none
  | .Subscript a (.Constant (.str k) j p) _ => match fe C false a, fe C false (.Constant (.str k) j p) with
    | some m, some n => some (mDGet m n)
    | _, _ => none
  | .Subscript a b _ => if isSlice b = false then match fe C false a, fe C false b with
      | some m, some n => some (mOp ixD m n)
      | _, _ => none
    else none
  | .ListComp elt [g0, g1] scope _ => cLc2 fe ft C mt elt [g0, g1] scope
  | .ListComp elt gens scope _ => (cLc fe ft C mt elt gens scope).map fun P => mLc mt P.im (P.own.map (·.2)) P.t.m P.tc P.me
  | .Call (.Name x _) [.Call (.Name y _) [a] [] _] [] _ => if x = "list" ∧ y = "range" ∧ isGl C.sc x = true ∧ isGl C.sc y = true ∧ isStar a = false then (fe C false a).map (mLR1 mt) else match e with
    | .Call (.Name x _) args kws _ => cCall fe C mt x args kws
    | _ => none
  | .Call (.Name x _) [.Call (.Name y _) [a, b] [] _] [] _ => if x = "list" ∧ y = "range" ∧ isGl C.sc x = true ∧ isGl C.sc y = true ∧ isStar a = false ∧ isStar b = false then match fe C false a, fe C false b with
      | some m, some n => some (mLR2 mt m n)
      | _, _ => none
    else match e with
    | .Call (.Name x _) args kws _ => cCall fe C mt x args kws
    | _ => none
  | .Call (.Name x p) args kws _ => if isVis C.sc x then cCallV fe C (.Name x p) args kws else cCall fe C mt x args kws
  | .Call (.Subscript a b p) args kws _ => cCallV fe C (.Subscript a b p) args kws
  | .Call (.Attribute o name apos) args [] pos => if isCall o = false ∧ (apos.endLine == pos.line) = true ∧ args.length < 30 then match fe C false o, cL (fe C (decide (name = "extend"))) args with
      | some m, some ms => cMeth m name ms
      | _, _ => none
    else none
  | _ => none
def stepT (fe : FE) (ft : FT) : FT := fun C e => match e with
  | .UnaryOp .Not a _ => (ft C a).map tmNot
  | .BoolOp op vs _ => cBoolT (ft C) op vs
  | .Compare a [op] [b] _ => if isSet b = false then match fe C false a, fe C false b with
      | some m, some n => some (mTst (mOp (cmpD op) m n))
      | _, _ => none
    else none
  | .Compare a [op, op'] [b, c] _ => if isSet c = false then match fe C false a, fe C false b, fe C false c with
      | some m, some n, some k => some (mTst (mChain op op' m n k))
      | _, _, _ => none
    else none
  | e => if isVal e = true then (fe C false e).map mTru else none
theorem stepE_ok {fe : FE} {ft : FT} (hf : SoundE fe) (ht : SoundT ft) : SoundE (stepE fe ft) := by
  intro C mt e m h X g
  have hfe : ∀ e m, fe C false e = some m → DE X e m := fun e m q => hf C false e m q X g
  have hu := g.units
  unfold stepE at h
  split at h
  · cases h; exact de_int
  · cases h; exact de_bl
  · cases h; exact de_non
  · cases h; exact de_str
  · exact cName_ok g h
  · rename_i es k p
    cases z : cL (fe C false) es with
    | none => simp [z] at h
    | some ms => simp [z] at h; subst h; exact de_tup (cL_ok hfe z).1
  · rename_i es p
    cases z : cL (fe C false) es with
    | none => simp [z] at h
    | some ms => simp [z] at h; subst h; exact de_lst (cL_ok hfe z).1
  · cases h; exact de_ed
  · rename_i ks vs p hne
    split at h
    · rename_i c
      cases z : cPs (fe C false) (fe C true) ks vs with
      | none => simp [z] at h
      | some ps =>
        simp [z] at h; subst h
        obtain ⟨h1, h2, h3⟩ := cPs_ok (pos := p) hfe (fun e m q => hf C true e m q X g) z
        exact de_dict h1 h2 h3 c.1 c.2
    · cases h
  · split at h
    · rename_i m n z1 z2; cases h; exact de_add (hfe _ _ z1) (hfe _ _ z2)
    · cases h
  · split at h
    · rename_i ms n z1 z2; cases h; exact de_lmul (cL_ok hfe z1).1 (hfe _ _ z2)
    · cases h
  · split at h
    · rename_i m n z1 z2; cases h; exact de_mul (hfe _ _ z1) (hfe _ _ z2)
    · cases h
  · split at h
    · rename_i m n z1 z2; cases h; exact de_ar (hfe _ _ z1) (hfe _ _ z2)
    · cases h
  · rename_i a p
    cases z : fe C false a with
    | none => simp [z] at h
    | some n => simp [z] at h; subst h; exact de_neg (hfe _ _ z)
  · rename_i a p
    cases z : fe C false a with
    | none => simp [z] at h
    | some n => simp [z] at h; subst h; exact de_not (hfe _ _ z)
  · exact cBool_ok hfe h
  · split at h
    · rename_i c
      split at h
      · rename_i m n z1 z2; cases h; exact de_cmp (by omega) (hfe _ _ z1) (hfe _ _ z2) c
      · cases h
    · cases h
  · split at h
    · rename_i c
      split at h
      · rename_i m n k z1 z2 z3; cases h; exact de_chain (by omega) (hfe _ _ z1) (hfe _ _ z2) (hfe _ _ z3) c
      · cases h
    · cases h
  · split at h
    · rename_i k m n z1 z2 z3; cases h; exact de_if (ht _ _ _ z1 X g) (hf _ _ _ _ z2 X g) (hf _ _ _ _ z3 X g)
    · cases h
  · rename_i a k p1 p2 p3 p4
    cases z : fe C false a with
    | none => simp [z] at h
    | some n => simp [z] at h; subst h; exact de_back (hfe _ _ z)
  · split at h
    · rename_i m l u z1 z2 z3; cases h; exact de_slice (hfe _ _ z1) (cP_ok hfe z2) (cP_ok hfe z3)
    · cases h
  · split at h
    · rename_i m n z1 z2; cases h; exact de_dget (by omega) (hfe _ _ z1) (hfe _ _ z2) rfl
    · cases h
  · split at h
    · rename_i c
      split at h
      · rename_i m n z1 z2; cases h; exact de_ix (by omega) (hfe _ _ z1) (hfe _ _ z2) c
      · cases h
    · cases h
  · exact cLc2_ok hf ht g h
  · rename_i elt gens scope p _
    cases z : cLc fe ft C mt elt gens scope with
    | none => simp [z] at h
    | some P =>
      simp [z] at h; subst h
      obtain ⟨tg, iter, ifs, rfl, h1, h2, h3, h4, h5, h6, h7⟩ := cLc_ok hf ht g z
      exact de_lc g.calm g.nd h1 h2 h3 h4 h5 h6 h7 (Classical.choice g.sh)
  · rename_i x p1 y p2 a p3 p4
    split at h
    · rename_i c
      obtain ⟨rfl, rfl, c1, c2, c3⟩ := c
      cases z : fe C false a with
      | none => simp [z] at h
      | some n => simp [z] at h; subst h; exact de_lr1 g.calm (g.gl c1) (g.blt _ (by decide +kernel)) (g.gl c2) (g.blt _ (by decide +kernel)) (hfe _ _ z) c3
    · exact cCall_ok hf g h
  · rename_i x p1 y p2 a b p3 p4
    split at h
    · rename_i c
      obtain ⟨rfl, rfl, c1, c2, c3, c4⟩ := c
      split at h
      · rename_i m n z1 z2; cases h; exact de_lr2 g.calm (g.gl c1) (g.blt _ (by decide +kernel)) (g.gl c2) (g.blt _ (by decide +kernel)) (hfe _ _ z1) (hfe _ _ z2) c3 c4
      · cases h
    · exact cCall_ok hf g h
  · split at h
    · exact cCallV_ok hf g h
    · exact cCall_ok hf g h
  · exact cCallV_ok hf g h
  · split at h
    · rename_i c
      split at h
      · rename_i m ms z1 z2
        obtain ⟨a1, a2, a3⟩ := cL_ok (fun e m q => hf C _ e m q X g) z2
        exact cMeth_ok g h (hfe _ _ z1) c.1 c.2.1 a1 a2 a3 c.2.2
      · cases h
    · cases h
  · cases h
theorem stepT_ok {fe : FE} {ft : FT} (hf : SoundE fe) (ht : SoundT ft) : SoundT (stepT fe ft) := by
  intro C e m h X g
  have hfe : ∀ e m, fe C false e = some m → DE X e m := fun e m q => hf C false e m q X g
  have hu := g.units
  unfold stepT at h
  split at h
  · rename_i a p
    cases z : ft C a with
    | none => simp [z] at h
    | some n => simp [z] at h; subst h; exact dt_not (ht _ _ _ z X g)
  · exact dw_dt (cBoolT_ok (fun e m q => ht C e m q X g) h)
  · split at h
    · rename_i c
      split at h
      · rename_i m n z1 z2; cases h; exact dt_cmp (by omega) (hfe _ _ z1) (hfe _ _ z2) c
      · cases h
    · cases h
  · split at h
    · rename_i c
      split at h
      · rename_i m n k z1 z2 z3; cases h; exact dt_chain (by omega) (hfe _ _ z1) (hfe _ _ z2) (hfe _ _ z3) c
      · cases h
    · cases h
  · split at h
    · rename_i c
      cases z : fe C false e with
      | none => simp [z] at h
      | some n => simp [z] at h; subst h; exact dt_val (hfe _ _ z) c
    · cases h
/-! ### the module's own dicts of words -/
def kdOk (C : Ctx) (x : Str) (i : Expr) : Option (List (Str × D)) := if isGl C.sc x = true ∧ plainName x = true ∧ isSlice i = false then C.ex.kd x else none
def kdE (fe : FE) (C : Ctx) : Expr → Option EM
  | .Subscript (.Name x _) i _ => match kdOk C x i with
    | some kvs => (fe C false i).map (mKdGet kvs)
    | none => none
  | .Compare i [.In] [.Name x _] _ => match kdOk C x (.Name x default) with
    | some kvs => (fe C false i).map (mKdIn true kvs)
    | none => none
  | .Compare i [.NotIn] [.Name x _] _ => match kdOk C x (.Name x default) with
    | some kvs => (fe C false i).map (mKdIn false kvs)
    | none => none
  | .Call (.Name y _) [.Name x _] [] _ => if y = "sorted" ∧ isGl C.sc "sorted" = true then match kdOk C x (.Name x default) with
    | some kvs => if kvs.length < 64 then some (mKdSort kvs) else none
    | none => none
    else none
  | _ => none
def kdT (fe : FE) (C : Ctx) : Expr → Option TM
  | .Compare i [.In] [.Name x _] _ => match kdOk C x (.Name x default) with
    | some kvs => (fe C false i).map fun m => mTst (mKdIn true kvs m)
    | none => none
  | .Compare i [.NotIn] [.Name x _] _ => match kdOk C x (.Name x default) with
    | some kvs => (fe C false i).map fun m => mTst (mKdIn false kvs m)
    | none => none
  | _ => none
theorem plain_db {x : Str} (h : plainName x = true) : (x == ("__debug__" : Str)) = false ∧ (x == ("__classdict__" : Str)) = false := by
  unfold plainName at h
  simpa using h
theorem kdOk_ok (g : Good X C) {x : Str} {i : Expr} {kvs : List (Str × D)} (h : kdOk C x i = some kvs) : Gl X x ∧ (x == ("__debug__" : Str)) = false ∧ KD X.prog X.w X.K X.mg x kvs ∧ isSlice i = false := by
  unfold kdOk at h
  split at h
  · rename_i c
    exact ⟨g.gl c.1, (plain_db c.2.1).1, g.exn.kd h, c.2.2⟩
  · cases h
theorem kdE_ok {fe : FE} (hf : SoundE fe) (g : Good X C) {e : Expr} {m : EM} (h : kdE fe C e = some m) : DE X e m := by
  unfold kdE at h
  split at h
  · rename_i x p i q
    split at h
    · rename_i kvs z
      obtain ⟨a1, a2, a3, a4⟩ := kdOk_ok g z
      cases y : fe C false i with
      | none => simp [y] at h
      | some n => simp [y] at h; subst h; exact de_kdget a1 a2 a3 (hf _ _ _ _ y X g) a4
    · cases h
  · rename_i i x p q
    split at h
    · rename_i kvs z
      obtain ⟨a1, a2, a3, a4⟩ := kdOk_ok g z
      cases y : fe C false i with
      | none => simp [y] at h
      | some n => simp [y] at h; subst h; exact de_kdin a1 a2 a3 (hf _ _ _ _ y X g)
    · cases h
  · rename_i i x p q
    split at h
    · rename_i kvs z
      obtain ⟨a1, a2, a3, a4⟩ := kdOk_ok g z
      cases y : fe C false i with
      | none => simp [y] at h
      | some n => simp [y] at h; subst h; exact de_kdnotin a1 a2 a3 (hf _ _ _ _ y X g)
    · cases h
  · split at h
    · rename_i hy
      obtain ⟨rfl, hgs⟩ := hy
      split at h
      · rename_i kvs z
        split at h
        · rename_i few
          cases h
          obtain ⟨a1, a2, a3, a4⟩ := kdOk_ok g z
          have hu := g.units
          exact de_kdsort a1 a2 a3 (g.gl hgs) (g.blt _ (by decide +kernel)) g.calm (by omega) few
        · cases h
      · cases h
    · cases h
  · cases h
theorem kdT_ok {fe : FE} (hf : SoundE fe) (g : Good X C) {e : Expr} {m : TM} (h : kdT fe C e = some m) : DT X e m := by
  unfold kdT at h
  split at h
  · rename_i i x p q
    split at h
    · rename_i kvs z
      obtain ⟨a1, a2, a3, a4⟩ := kdOk_ok g z
      cases y : fe C false i with
      | none => simp [y] at h
      | some n => simp [y] at h; subst h; exact dt_kdin a1 a2 a3 (hf _ _ _ _ y X g)
    · cases h
  · rename_i i x p q
    split at h
    · rename_i kvs z
      obtain ⟨a1, a2, a3, a4⟩ := kdOk_ok g z
      cases y : fe C false i with
      | none => simp [y] at h
      | some n => simp [y] at h; subst h; exact dt_kdnotin a1 a2 a3 (hf _ _ _ _ y X g)
    · cases h
  · cases h
def stepEk (fe : FE) (ft : FT) : FE := fun C mt e => match kdE fe C e with
  | some m => some m
  | none => stepE fe ft C mt e
def stepTk (fe : FE) (ft : FT) : FT := fun C e => match kdT fe C e with
  | some m => some m
  | none => stepT fe ft C e
theorem stepEk_ok {fe : FE} {ft : FT} (hf : SoundE fe) (ht : SoundT ft) : SoundE (stepEk fe ft) := by
  intro C mt e m h X g
  unfold stepEk at h
  split at h
  · rename_i n z; cases h; exact kdE_ok hf g z
  · exact stepE_ok hf ht C mt e m h X g
theorem stepTk_ok {fe : FE} {ft : FT} (hf : SoundE fe) (ht : SoundT ft) : SoundT (stepTk fe ft) := by
  intro C e m h X g
  unfold stepTk at h
  split at h
  · rename_i n z; cases h; exact kdT_ok hf g z
  · exact stepT_ok hf ht C e m h X g
/-! ### all, any of a generator expression -/
def isLD : Expr → Bool
  | .List .. => true
  | _ => false
theorem gfold_no {e : Expr} {env : Env} (h : isSet e = false) (h2 : isLD e = false) : ∀ x, genFold e env x = pure x := by
  intro x
  have z : genFold e env x = foldedSetIterable e env x := by
    cases e with
    | List _ _ => cases h2
    | _ => rfl
  rw [z]
  exact fold_no h x
/-- the scope's look -/
def gxC (N : List Str) (sd scope : Scope) (vs : List Nat) : Bool :=
  decide (scope.kind = .function) && !scope.isCoroutine && scope.names.all (fun y => !decide (y.2 = .cell)) && decide (scope.names.lookup (".0" : Str) = some NameKind.local) &&
    scope.names.all (fun y => !decide (y.2 = .free) || decide (sd.names.lookup y.1 = some .cell)) && N.zipIdx.all fun xi => !decide (scope.names.lookup xi.1 = some .local) || decide (xi.2 ∈ vs)
theorem gxOk_by {N : List Str} {sd scope : Scope} {vs : List Nat} (h : gxC N sd scope vs = true) : GxOk N sd scope vs := by
  unfold gxC at h
  simp only [Bool.and_eq_true] at h
  obtain ⟨⟨⟨⟨⟨h1, h2⟩, h3⟩, h4⟩, h5⟩, h6⟩ := h
  refine ⟨of_decide_eq_true h1, by simpa using h2, fun y hy z => ?_, of_decide_eq_true h4, fun y hy z => ?_, fun i x hi z => ?_⟩
  · have := List.all_eq_true.mp h3 y hy
    rw [decide_eq_true z] at this
    cases this
  · have := List.all_eq_true.mp h5 y hy
    rw [decide_eq_true z] at this
    simpa using this
  · have hm : (x, i) ∈ N.zipIdx := by
      rw [List.mem_zipIdx_iff_getElem?]
      exact hi
    have := List.all_eq_true.mp h6 (x, i) hm
    rw [decide_eq_true (show scope.names.lookup (x, i).1 = some .local from z)] at this
    simpa using this
def Ctx.gx (C : Ctx) (scope : Scope) : Ctx := { C with sc := scope, tg := fun x => decide (scope.names.lookup x = some .local), self := "", sl := 0 }
theorem Good.gx (g : Good X C) (hs : C.sl = 1) (scope : Scope) (code : Value) (s : Shared) (H : Hp) (fp : List Addr) (pn : List (Addr × Obj)) : Good (DX.gx X scope code s H fp pn) (C.gx scope) where
  hN := g.hN
  nd := g.nd
  sc := rfl
  calm := rfl
  free := g.free
  units := by
    have := g.room.un
    rw [hs] at this
    show X.A.units + 1 + 1 + 3 + 200 < cLine
    omega
  sh := g.sh
  tgs := fun x h => by
    have h' : decide (scope.names.lookup x = some .local) = true := h
    exact ⟨.inl (of_decide_eq_true h'), .inr (of_decide_eq_true h')⟩
  fn := fun x F h => by
    obtain ⟨k, f, fd, h1, h2, h3, h4, h5⟩ := g.fn x F h
    refine ⟨k, f, fd, h1, h2, h3, ⟨h4.hd, ?_, ?_⟩, h5⟩
    · have := h4.dp
      rw [hs] at this
      show X.A.depth + 1 + 3 * (k + 0) + 5 < recursionLimit
      omega
    · have := h4.un
      rw [hs] at this
      show X.A.units + 1 + 1 + 3 + 16 * (k + 0) + 200 < cLine
      omega
  const := g.const
  blt := g.blt
  exn := g.exn
  room := by
    have h4 := g.room
    refine ⟨h4.hd, ?_, ?_⟩
    · have := h4.dp
      rw [hs] at this
      show X.A.depth + 1 + 3 * 0 + 5 < recursionLimit
      omega
    · have := h4.un
      rw [hs] at this
      show X.A.units + 1 + 1 + 3 + 16 * 0 + 200 < cLine
      omega
  gen := fun h => absurd (show ("" : Str) ∈ tbNames from h) (by decide)
def aaE (fe : FE) (C : Ctx) : Expr → Option EM
  | .Call (.Name nm _) [.GeneratorExp elt [⟨tg, iter, [], 0⟩] scope _] [] _ =>
    if (nm = "all" ∨ nm = "any") ∧ isGl C.sc nm = true ∧ C.self ∈ tbNames ∧ C.sl = 1 ∧ gxC C.N C.sc scope ((ownOf C.N scope).map (·.2)) = true ∧ isSet iter = false ∧ isLD iter = false then
      match cTg (C.gx scope) 3 tg, cI fe C tg iter, fe (C.gx scope) false elt with
      | some t, some im, some me => if t.at.all (fun i => ((ownOf C.N scope).map (·.2)).contains i) = true then some (mAA (decide (nm = "all")) im ((ownOf C.N scope).map (·.2)) t.m me) else none
      | _, _, _ => none
    else none
  | _ => none
theorem takes_gx {scope : Scope} {code : Value} {s : Shared} {H : Hp} {fp : List Addr} {pn : List (Addr × Obj)} : Takes (DX.gx X scope code s H fp pn) WF := fun u s' x => by
  obtain ⟨_, _, _, _, _, _, _, _, _, _, _, _, _, _, _, _, w⟩ := x
  exact w
theorem aaE_ok {fe : FE} (hf : SoundE fe) (g : Good X C) {e : Expr} {m : EM} (h : aaE fe C e = some m) : DE X e m := by
  unfold aaE at h
  split at h
  · rename_i nm p elt tg iter scope gpos pos
    split at h
    · rename_i c
      obtain ⟨c1, c2, c3, c4, c5, c6, c7⟩ := c
      split at h
      · rename_i t im me z1 z2 z3
        split at h
        · rename_i q
          cases h
          obtain ⟨cc, P, t1, t2, t3⟩ := g.gen c3
          have hP : P ∈ tabsOf X.K := List.mem_filterMap.mpr ⟨C.self, c3, by rw [t1]; rfl⟩
          have hat : ∀ i ∈ t.at, i ∈ (ownOf C.N scope).map (·.2) := fun i hi => by
            have := List.all_eq_true.mp q i hi
            simpa using this
          have ok : GxOk X.N X.env.scope scope ((ownOf C.N scope).map (·.2)) := by
            rw [g.hN, g.sc]
            exact gxOk_by c5
          have hr : Room (0 + 1) X.A := by
            have := g.room
            rw [c4] at this
            exact this
          have hnm : nm = if decide (nm = "all") = true then ("all" : Str) else ("any" : Str) := by
            rcases c1 with rfl | rfl
            · rfl
            · rfl
          have hb : nm ∈ blts := by rcases c1 with rfl | rfl <;> decide
          intro Wx tk
          obtain ⟨w, p1, s1⟩ := cI_ok hf g z2 Wx tk
          exact ⟨_, pe_aa hr g.calm hnm (g.gl c2) (g.blt nm hb) t3 t2 ok p1 (fun code s H fp pn => cTg_ok (g.gx c4 scope code s H fp pn) z1) (fun code s H fp pn => (hf _ _ _ _ z3 _ (g.gx c4 scope code s H fp pn)).pe takes_gx) (gfold_no c6 c7),
            snd_aa hP s1 (Tg.snd t) (Tg.keeps t hat) (Tg.mono t) snd_tOf⟩
        · cases h
      · cases h
    · cases h
  · cases h
def stepEa (fe : FE) (ft : FT) : FE := fun C mt e => match aaE fe C e with
  | some m => some m
  | none => stepEk fe ft C mt e
theorem stepEa_ok {fe : FE} {ft : FT} (hf : SoundE fe) (ht : SoundT ft) : SoundE (stepEa fe ft) := by
  intro C mt e m h X g
  unfold stepEa at h
  split at h
  · rename_i n z; cases h; exact aaE_ok hf g z
  · exact stepEk_ok hf ht C mt e m h X g
def cET : Nat → FE × FT
  | 0 => (fun _ _ _ => none, fun _ _ => none)
  | n + 1 => (stepEa (cET n).1 (cET n).2, stepTk (cET n).1 (cET n).2)
theorem cET_ok : ∀ n, SoundE (cET n).1 ∧ SoundT (cET n).2
  | 0 => ⟨fun _ _ _ _ h => (nomatch h), fun _ _ _ h => (nomatch h)⟩
  | n + 1 => ⟨stepEa_ok (cET_ok n).1 (cET_ok n).2, stepTk_ok (cET_ok n).1 (cET_ok n).2⟩
end DX

/-! DxSt: a, *b, c = .. -/
set_option linter.all false
set_option maxRecDepth 100000
set_option Elab.async false
namespace DX
open PySem PySem.Spec PyProof.Rows L2
def midOf {α : Type} (i n : Nat) (xs : List α) : List α := (xs.drop i).take (xs.length + 1 - n)
def endOf {α : Type} (i n : Nat) (xs : List α) : List α := (xs.drop i).drop (xs.length + 1 - n)
def gStar (K : PySem.W.Frag) (i n : Nat) (t : TGs) : TG := fun v σ H Q => ∃ a xs, v = .ref a ∧ (SqT K H a xs ∨ SqL K H a xs) ∧ n ≤ xs.length + 1 ∧ xs.length ≤ 16384 ∧ ∀ p, H p = none → t (xs.take i ++ [.ref p] ++ endOf i n xs) σ (upd H p (.lst (midOf i n xs))) Q
theorem vals_take {xs : List V} {us : List Value} (r : Vals xs us) (n : Nat) : Vals (xs.take n) (us.take n) := by
  induction r generalizing n with
  | nil => cases n <;> exact .nil
  | cons h t ih => cases n with
    | zero => exact .nil
    | succ n => exact .cons h (ih n)
theorem vals_drop {xs : List V} {us : List Value} (r : Vals xs us) (n : Nat) : Vals (xs.drop n) (us.drop n) := by
  induction r generalizing n with
  | nil => cases n <;> exact .nil
  | cons h t ih => cases n with
    | zero => exact .cons h t
    | succ n => exact ih n
theorem vals_app {xs ys : List V} {us ws : List Value} (r : Vals xs us) (q : Vals ys ws) : Vals (xs ++ ys) (us ++ ws) := by
  induction r with
  | nil => exact q
  | cons h t ih => exact .cons h ih
set_option maxHeartbeats 4000000 in
theorem pg_star {X : Cx} {es es' : List Expr} {k : Nat} {pos : Pos} {t : TGs} {n i : Nat} (hc : X.calm = true) (h : PGs X es' t) (he : (assignEach es X.env).map (·.2) = (assignEach es' X.env).map (·.2))
    (hn : (assignEach es X.env).length = n) (hst : (assignEach es X.env).findIdx? (·.1) = some i) (hi : i < n) : PG X (.Tuple es k pos) (gStar X.K i n t) := by
  refine ⟨fun pins s σ H v u Q I r hw => ?_⟩
  obtain ⟨a, xs, e1, hq, hl, hz, hw⟩ := hw
  subst e1
  cases r
  rw [assign_Tuple]
  refine wpAny_bind (wpAny_standAt ?_)
  unfold unpack
  rw [hn, hst, he]
  have hh := I.ok.hd hc
  have fin : ∀ (its : List Value) (J : Addr) (h' : Heap) (tk : Nat), Vals xs its → s.heap.objs.size ≤ J → (∀ b o, b ≠ J → s.heap.get? b = some o → h'.get? b = some o) →
      wpAny (model X.prog X.w) X.A (assignInOrder ((assignEach es' X.env).map (·.2)) (its.take i ++ [.ref h'.objs.size] ++ endOf i n its)) (fun _ s2 => ∃ σ1 H1, L2.Inv X pins σ1 H1 s2 ∧ Q σ1 H1) X.xe { s with heap := h'.push { cls := .type "list", data := .seq (midOf i n its).toArray }, toks := tk } := by
    intro its J h' tk rv hJ hk
    have I1 : Inv X pins σ H { s with heap := h', toks := tk } := I.kept fun b o e => hk b o (Nat.ne_of_lt (Nat.lt_of_lt_of_le (Heap.lt_size e) hJ)) e
    have ll := rv.length
    have mv : Vals (midOf i n xs) (midOf i n its) := by unfold midOf; rw [ll]; exact vals_take (vals_drop rv _) _
    have ev : Vals (endOf i n xs) (endOf i n its) := by unfold endOf; rw [ll]; exact vals_drop (vals_drop rv _) _
    have I2 := I1.lnew (t' := tk) mv (by unfold midOf; rw [List.length_take]; have : (16384 : Nat) ≤ sizeLine := by decide
                                         rw [List.length_drop]; omega)
    exact h.run pins _ σ _ (xs.take i ++ [V.ref h'.objs.size] ++ endOf i n xs) _ Q I2 (vals_app (vals_app (vals_take rv i) (.cons rfl .nil)) ev) (hw _ I1.fresh)
  rcases hq with hq | hq
  · obtain ⟨its, rv, ht, hz'⟩ := I.tuple hq
    have ll := rv.length
    have hlt : a ≠ s.heap.objs.size := by obtain ⟨o, ho, _⟩ := ht; exact Nat.ne_of_lt (Heap.lt_size ho)
    refine wpAny_bind (wpAny_holding ?_)
    unfold unpackItems
    refine wpAny_bind ?_
    unfold notIterableAtAll
    refine wpAny_bind (wpAny_specialOf ht.typeIs slot_tuple_iter.lookup ?_)
    refine wpAny_pure ?_
    simp only [Bool.false_eq_true, if_false]
    refine wpAny_bind (wpAny_holding (PyProof.Rows.iter_tuple ht ?_))
    refine wpAny_bind (wpAny_holding (PyProof.Rows.draw_tuple hlt i 0 _ _ ⟨_, Heap.get?_push_size _ rfl, rfl, rfl⟩ (ht.push _) (by simp; omega) fun h₁ hit₁ hs₁ => ?_))
    have ht₁ : IsTup h₁ a its.toArray := (ht.push _).extBut hs₁.extBut hlt
    rw [Nat.zero_add] at hit₁
    have hit₁' := hit₁
    obtain ⟨oi, hoi, _⟩ := hit₁'
    have ht₁' := ht₁
    obtain ⟨ol, hol, _⟩ := ht₁'
    rw [List.drop_zero]
    have hfl : (its.toArray.toList.take i).length = i := by rw [List.length_take, Array.length_toList, List.size_toArray]; omega
    rw [if_neg (show ¬ ((its.toArray.toList.take i).length < i) by rw [hfl]; omega)]
    refine wpAny_bind (wpAny_holding (PySem.W.kun_collect (s := { s with heap := h₁ }) (T := "tuple_iterator") (by simp) (Walks.tuple (A := X.A.in1) hh s.heap.objs.size a hlt its.toArray) (fun j u st => st.1.typeIs) (k := i) (by simp; omega) ⟨hit₁, ht₁⟩ (Heap.lt_size hoi) (Heap.lt_size hol) (fun h₂ tk hk => ?_) (by rw [sizeLine_eq]; simp; omega)))
    have hrl : (its.toArray.toList.drop i).length = its.length - i := by rw [List.length_drop, Array.length_toList, List.size_toArray]
    have hmid : (its.toArray.toList.drop i).length - (n - 1 - i) = its.length + 1 - n := by rw [hrl]; omega
    show wpAny _ _ (if (its.toArray.toList.drop i).length < n - 1 - i then _ else _) _ _ _
    rw [if_neg (by rw [hrl]; omega)]
    show wpAny _ _ (newList ((its.toArray.toList.drop i).take ((its.toArray.toList.drop i).length - (n - 1 - i))) >>= fun d => pure (its.toArray.toList.take i ++ [d] ++ (its.toArray.toList.drop i).drop ((its.toArray.toList.drop i).length - (n - 1 - i)))) _ _ _
    rw [hmid]
    exact wpAny_bind (wpAny_newList (wpAny_pure (fin its s.heap.objs.size h₂ tk rv (Nat.le_refl _) fun b o hb e => hk b o hb (hs₁.extBut b o hb (Heap.get?_push_of_some _ e)))))
  · obtain ⟨its, rv, ht, hz'⟩ := I.list hq
    have ll := rv.length
    have ht := ht.isList
    have hlt : a ≠ s.heap.objs.size := by obtain ⟨o, ho, _⟩ := ht; exact Nat.ne_of_lt (Heap.lt_size ho)
    refine wpAny_bind (wpAny_holding ?_)
    unfold unpackItems
    refine wpAny_bind ?_
    unfold notIterableAtAll
    refine wpAny_bind (wpAny_specialOf ht.typeIs slot_list_iter.lookup ?_)
    refine wpAny_pure ?_
    simp only [Bool.false_eq_true, if_false]
    refine wpAny_bind (wpAny_holding (wpAny_pyIter_list ht ?_))
    refine wpAny_bind (wpAny_holding (PySem.W.kun_draw hlt i 0 _ _ ⟨_, Heap.get?_push_size _ rfl, rfl, rfl⟩ (ht.push _) (by simp; omega) fun h₁ hit₁ hs₁ => ?_))
    have ht₁ : h₁.IsList a its.toArray := (ht.push _).extBut hs₁.extBut hlt
    rw [Nat.zero_add] at hit₁
    have hit₁' := hit₁
    obtain ⟨oi, hoi, _⟩ := hit₁'
    have ht₁' := ht₁
    obtain ⟨ol, hol, _⟩ := ht₁'
    rw [List.drop_zero]
    have hfl : (its.toArray.toList.take i).length = i := by rw [List.length_take, Array.length_toList, List.size_toArray]; omega
    rw [if_neg (show ¬ ((its.toArray.toList.take i).length < i) by rw [hfl]; omega)]
    refine wpAny_bind (wpAny_holding (PySem.W.kun_collect (s := { s with heap := h₁ }) (T := "list_iterator") (by simp) (Walks.list (A := X.A.in1) hh s.heap.objs.size a hlt its.toArray) (fun j u st => st.1.typeIs) (k := i) (by simp; omega) ⟨hit₁, ht₁⟩ (Heap.lt_size hoi) (Heap.lt_size hol) (fun h₂ tk hk => ?_) (by rw [sizeLine_eq]; simp; omega)))
    have hrl : (its.toArray.toList.drop i).length = its.length - i := by rw [List.length_drop, Array.length_toList, List.size_toArray]
    have hmid : (its.toArray.toList.drop i).length - (n - 1 - i) = its.length + 1 - n := by rw [hrl]; omega
    show wpAny _ _ (if (its.toArray.toList.drop i).length < n - 1 - i then _ else _) _ _ _
    rw [if_neg (by rw [hrl]; omega)]
    show wpAny _ _ (newList ((its.toArray.toList.drop i).take ((its.toArray.toList.drop i).length - (n - 1 - i))) >>= fun d => pure (its.toArray.toList.take i ++ [d] ++ (its.toArray.toList.drop i).drop ((its.toArray.toList.drop i).length - (n - 1 - i)))) _ _ _
    rw [hmid]
    exact wpAny_bind (wpAny_newList (wpAny_pure (fin its s.heap.objs.size h₂ tk rv (Nat.le_refl _) fun b o hb e => hk b o hb (hs₁.extBut b o hb (Heap.get?_push_of_some _ e)))))
def sStar (mt : Bool) (i n : Nat) (l : Tgs) (a : EM) : SM := fun e st => (a e st).s e fun d st1 => match seqItems st1 d with
  | some xs => if n ≤ xs.length + 1 ∧ xs.length ≤ 16384 then match newL mt (midOf i n xs) st1 with
    | .ok dl st2 => match l.m (xs.take i ++ [dl] ++ endOf i n xs) e with
      | some e' => .nx e' st2
      | none => .no
    | _ => .no
    else .no
  | none => .no
theorem Rels.mid {W : Wd} {ρ : List Addr} {H : Hp} {xs : List D} {vs : List V} (r : Rels W ρ H xs vs) (i n : Nat) : Rels W ρ H (midOf i n xs) (midOf i n vs) := by
  unfold midOf
  rw [r.length]
  exact (r.drop i).take _
theorem Rels.fin {W : Wd} {ρ : List Addr} {H : Hp} {xs : List D} {vs : List V} (r : Rels W ρ H xs vs) (i n : Nat) : Rels W ρ H (endOf i n xs) (endOf i n vs) := by
  unfold endOf
  rw [r.length]
  exact (r.drop i).drop _
theorem snd_star {K : PySem.W.Frag} {mg : Str → Option Value} {Wx : WX} {ta : TE} {a : EM} {mt : Bool} {i n : Nat} {l : Tgs} (ha : SndE K mg ta Wx a) : SndS K mg (tAsg ta (gStar K i n (l.g K))) Wx (sStar mt i n l a) := by
  intro av σ e ρ H st Ds s er h
  refine ha av σ e ρ H st _ s er ((PostS.s er h).imp ?_)
  rintro v H1 ⟨d, ρ1, st1, x1, s1, r1, q1⟩
  split at q1
  · rename_i xs e1
    split at q1
    · rename_i c
      have both : ∃ a vs, v = .ref a ∧ (SqT K H1 a vs ∨ SqL K H1 a vs) ∧ Rels ⟨K, mg, av⟩ ρ1 H1 xs vs := by
        by_cases t : ∃ ys, d = .tup ys
        · obtain ⟨ys, rfl⟩ := t
          cases e1
          obtain ⟨p, vs, rfl, h1, rs⟩ := r1.tuple
          exact ⟨p, vs, rfl, .inl h1, rs⟩
        · obtain ⟨p, vs, rfl, h1, rs⟩ := r1.list s1 (seq_nottup (fun ys e => t ⟨ys, e⟩) e1)
          exact ⟨p, vs, rfl, .inr h1, rs⟩
      obtain ⟨p, vs, rfl, h1, rs⟩ := both
      refine ⟨p, vs, rfl, h1, by rw [← rs.length]; exact c.1, by rw [← rs.length]; exact c.2, ?_⟩
      refine post_newL (mt := mt) (E := fun _ _ _ => True) (Q := fun w H2 => (l.g K) (vs.take i ++ [w] ++ endOf i n vs) σ H2 Ds.nx) s1 (rs.mid i n) ?_
      cases hq : newL mt (midOf i n xs) st1 with
      | ok dl st2 =>
        rw [hq] at q1
        dsimp only at q1
        intro w ρ2 H2 x2 s2 r2
        cases z : l.m (xs.take i ++ [dl] ++ endOf i n xs) e with
        | none => rw [z] at q1; exact q1.elim
        | some e' =>
          rw [z] at q1
          have r3 : Rels ⟨K, mg, av⟩ ρ2 H2 (xs.take i ++ [dl] ++ endOf i n xs) (vs.take i ++ [w] ++ endOf i n vs) := (((rs.ext x2).take i).append (.one r2)).append ((rs.ext x2).fin i n)
          exact (Tgs.snd l) av σ e ρ2 H2 st2 _ _ e' _ s2 ((er.ext x1).ext x2) r3 z fun σ' er' => q1 σ' ρ2 H2 x2 s2 er'
      | exc c fs st2 => exact fun _ _ _ _ _ _ _ => trivial
      | no => rw [hq] at q1; exact q1.elim
    · exact q1.elim
  · exact q1.elim
/-! turning -/
def unStar : Expr → Expr
  | .Starred t _ => t
  | t => t
theorem star_each {es : List Expr} {env : Env} (h : (es.map unStar).all (fun e => !isStar e) = true) : (assignEach es env).map (·.2) = (assignEach (es.map unStar) env).map (·.2) ∧ (assignEach es env).length = es.length ∧ (assignEach es env).findIdx? (·.1) = es.findIdx? isStar := by
  induction es with
  | nil => exact ⟨rfl, rfl, rfl⟩
  | cons e es ih =>
    rw [List.map_cons, List.all_cons, Bool.and_eq_true] at h
    obtain ⟨i1, i2, i3⟩ := ih h.2
    have hn : isStar (unStar e) = false := by simpa using h.1
    rw [List.map_cons, asg_cons hn]
    by_cases c : isStar e = true
    · obtain ⟨t, p, rfl⟩ : ∃ t p, e = .Starred t p := by
        cases e <;> first | exact ⟨_, _, rfl⟩ | cases c
      have e1 : assignEach (.Starred t p :: es) env = (true, assign t env) :: assignEach es env := rfl
      rw [e1]
      refine ⟨by rw [List.map_cons, List.map_cons, i1]; rfl, by rw [List.length_cons, List.length_cons, i2], ?_⟩
      rw [List.findIdx?_cons, List.findIdx?_cons, c]
      rfl
    · have c' : isStar e = false := by simpa using c
      have hu : unStar e = e := by cases e <;> first | rfl | exact absurd rfl c
      rw [hu, asg_cons c']
      refine ⟨by rw [List.map_cons, List.map_cons, i1], by rw [List.length_cons, List.length_cons, i2], ?_⟩
      rw [List.findIdx?_cons, List.findIdx?_cons, c', i3]
end DX

/-! DxTs: x[i], y[j] = .., targets that are kept in objects. -/
set_option linter.all false
set_option maxRecDepth 100000
set_option Elab.async false
namespace DX
open PySem PySem.Spec PyProof.Rows L2

/-- a target that may be kept in an object -/
abbrev GmS := D → SM
abbrev GmsS := List D → SM
def gsName (i : Nat) : GmS := fun d e st => .nx (e.set i (some d)) st
/-- o[i] = .., o a list of the store -/
def gsLst (a b : EM) : GmS := fun y e st => (a e st).s e fun x st2 => (b e st2).s e fun k st3 => match lstOf st3 x, k with
  | some (n, xs), .int i => match ixN xs.length i with
    | some j => .nx e (st3.set n (.lst (xs.set j y)))
    | none => .no
  | _, _ => .no
/-- o[k] = .., o a dict of the store -/
def gsDct (a b : EM) : GmS := fun y e st => (a e st).s e fun x st2 => (b e st2).s e fun k st3 => match dctOf st3 x, keyOf k with
  | some (n, kvs), some kk => if kvs.length < sizeLine then .nx e (st3.set n (.dct (putD kvs kk y))) else .no
  | _, _ => .no
def gssNil : GmsS
  | [], e, st => .nx e st
  | _, _, _ => .no
def gssCons (m : GmS) (ms : GmsS) : GmsS
  | d :: ds, e, st => (m d e st).seq (ms ds)
  | [], _, _ => .no
/-- (t, ..) = value -/
def sAsgS (a : EM) (n : Nat) (ms : GmsS) : SM := fun e st => (a e st).s e fun d st1 => match d with
  | .tup xs => if xs.length = n then ms xs e st1 else .no
  | _ => .no

section
variable {K : PySem.W.Frag} {mg : Str → Option Value} {Wx : WX}
def SndTS (K : PySem.W.Frag) (mg : Str → Option Value) (g : TG) (Wx : WX) (m : GmS) : Prop :=
  ∀ av σ e ρ H st d v (Ds : Ends), SR ⟨K, mg, av⟩ ρ H st → ER ⟨K, mg, av⟩ ρ H e σ → Rel ⟨K, mg, av⟩ ρ H d v → PostS ⟨K, mg, av⟩ Wx Ds ρ H (m d e st) → g v σ H Ds.nx
def SndTSs (K : PySem.W.Frag) (mg : Str → Option Value) (g : TGs) (Wx : WX) (m : GmsS) : Prop :=
  ∀ av σ e ρ H st ds vs (Ds : Ends), SR ⟨K, mg, av⟩ ρ H st → ER ⟨K, mg, av⟩ ρ H e σ → Rels ⟨K, mg, av⟩ ρ H ds vs → PostS ⟨K, mg, av⟩ Wx Ds ρ H (m ds e st) → g vs σ H Ds.nx
theorem snd_gsName {i : Nat} : SndTS K mg (gName i) Wx (gsName i) := by
  intro av σ e ρ H st d v Ds s er r h
  exact h _ ρ H .refl s (er.set i r)
theorem snd_gsLst {to ti : TE} {a b : EM} (ha : SndE K mg to Wx a) (hb : SndE K mg ti Wx b) : SndTS K mg (gSub to ti rSetL) Wx (gsLst a b) := by
  intro av σ e ρ H st y w Ds s er r1 h
  refine ha av σ e ρ H st _ s er ((PostS.s er h).imp ?_)
  rintro u H2 ⟨x, ρ2, st2, x2, s2, r2, q2⟩
  refine hb av σ e ρ2 H2 st2 _ s2 (er.ext x2) ((PostS.s (er.ext x2) q2).imp ?_)
  rintro k H3 ⟨kd, ρ3, st3, x3, s3, r3, q3⟩
  split at q3
  · rename_i n xs i e1
    split at q3
    · rename_i j e2
      obtain ⟨p, ws, rfl, hn, hp, t⟩ := lstOf_rel s3 (r2.ext x3) e1
      cases r3
      have rd := (r1.ext x2).ext x3
      have y : Ext ρ3 H3 ρ3 (upd H3 p (.lst (ws.set j w))) := .put hn
      exact ⟨p, ws, i, j, rfl, rfl, hp, by rw [← t.length]; exact e2, q3 σ ρ3 _ y (s3.put hn ⟨_, upd_same, (t.set rd j).ext y⟩) (((er.ext x2).ext x3).ext y)⟩
    · exact q3.elim
  · exact q3.elim
theorem snd_gsDct {to ti : TE} {a b : EM} (ha : SndE K mg to Wx a) (hb : SndE K mg ti Wx b) : SndTS K mg (gSub to ti rSetD) Wx (gsDct a b) := by
  intro av σ e ρ H st y w Ds s er r1 h
  refine ha av σ e ρ H st _ s er ((PostS.s er h).imp ?_)
  rintro u H2 ⟨x, ρ2, st2, x2, s2, r2, q2⟩
  refine hb av σ e ρ2 H2 st2 _ s2 (er.ext x2) ((PostS.s (er.ext x2) q2).imp ?_)
  rintro k H3 ⟨kd, ρ3, st3, x3, s3, r3, q3⟩
  split at q3
  · rename_i n kvs kk e1 e2
    split at q3
    · rename_i z
      obtain ⟨p, ws, rfl, hn, hp, t⟩ := dctOf_rel s3 (r2.ext x3) e1
      obtain rfl := keyOf_rel r3 e2
      have rd := (r1.ext x2).ext x3
      have lw : kvs.length = ws.length := Paired.length t
      have y : Ext ρ3 H3 ρ3 (upd H3 p (.dK (putK ws kk w))) := .put hn
      exact ⟨p, _, rfl, .k hp (by rw [← lw]; exact z), q3 σ ρ3 _ y (s3.put hn ⟨_, upd_same, (t.put kk rd).ext y⟩) (((er.ext x2).ext x3).ext y)⟩
    · exact q3.elim
  · exact q3.elim
theorem snd_gssNil : SndTSs K mg gNil Wx gssNil := by
  intro av σ e ρ H st ds vs Ds s er r h
  cases r with
  | nil => exact ⟨rfl, h σ ρ H .refl s er⟩
  | cons _ _ => exact h.elim
theorem snd_gssCons {g : TG} {gs : TGs} {m : GmS} {ms : GmsS} (h1 : SndTS K mg g Wx m) (h2 : SndTSs K mg gs Wx ms) : SndTSs K mg (gCons g gs) Wx (gssCons m ms) := by
  intro av σ e ρ H st ds vs Ds s er r h
  cases r with
  | nil => exact h.elim
  | cons r t =>
    rename_i d ds v vs
    refine ⟨v, vs, rfl, h1 av σ e ρ H st d v { Ds with nx := fun σ' H' => gs vs σ' H' Ds.nx } s er r ?_⟩
    have h' : PostS ⟨K, mg, av⟩ Wx Ds ρ H ((m d e st).seq (ms ds)) := h
    cases z : m d e st with
    | nx e1 st1 =>
      rw [z] at h'
      exact fun σ' ρ' H' x s' q => h2 av σ' e1 ρ' H' st1 ds vs Ds s' q (t.ext x) (PostS.ext (show PostS ⟨K, mg, av⟩ Wx Ds ρ H (ms ds e1 st1) from h') x)
    | bk e st => rw [z] at h'; exact h'
    | ct e st => rw [z] at h'; exact h'
    | rt d st => rw [z] at h'; exact h'
    | exc c fs e st => rw [z] at h'; exact h'
    | no => rw [z] at h'; exact h'
theorem snd_asgS {te : TE} {gs : TGs} {a : EM} {n : Nat} {ms : GmsS} (ha : SndE K mg te Wx a) (hg : SndTSs K mg gs Wx ms) : SndS K mg (tAsg te (gTup K n gs)) Wx (sAsgS a n ms) := by
  intro av σ e ρ H st Ds s er h
  refine ha av σ e ρ H st _ s er ((PostS.s er h).imp ?_)
  rintro v H1 ⟨d, ρ1, st1, x1, s1, r1, q1⟩
  cases d with
  | tup xs =>
    have q' : PostS ⟨K, mg, av⟩ Wx Ds ρ1 H1 (if xs.length = n then ms xs e st1 else .no) := q1
    by_cases z : xs.length = n
    · rw [if_pos z] at q'
      obtain ⟨p, vs, rfl, h1, rs⟩ := r1.tuple
      exact ⟨p, vs, rfl, h1, by rw [← rs.length]; exact z, hg av σ e ρ1 H1 st1 xs vs Ds s1 (er.ext x1) rs q'⟩
    · rw [if_neg z] at q'; exact q'.elim
  | _ => exact q1.elim
end

section
variable {X : Cx} {C : Ctx}
def GSt (X : Cx) (e : Expr) (m : GmS) : Prop := ∀ Wx, Takes X Wx → ∃ g, PG X e g ∧ SndTS X.K X.mg g Wx m
def GSts (X : Cx) (es : List Expr) (m : GmsS) : Prop := ∀ Wx, Takes X Wx → ∃ g, PGs X es g ∧ SndTSs X.K X.mg g Wx m
theorem gst_lst {o b : Expr} {mo mb : EM} {p : Pos} (hb0 : isSlice b = false) (ho : DE X o mo) (hb : DE X b mb) : GSt X (.Subscript o b p) (gsLst mo mb) := fun Wx tk =>
  let ⟨_, p0, s0⟩ := ho Wx tk
  let ⟨_, p1, s1⟩ := hb Wx tk
  ⟨_, pg_sub p0 p1 set_list (by intro v; cases b <;> first | rfl | cases hb0), snd_gsLst s0 s1⟩
theorem gst_dct {o b : Expr} {mo mb : EM} {p : Pos} (hu : X.A.units + 1 < cLine) (hb0 : isSlice b = false) (ho : DE X o mo) (hb : DE X b mb) : GSt X (.Subscript o b p) (gsDct mo mb) := fun Wx tk =>
  let ⟨_, p0, s0⟩ := ho Wx tk
  let ⟨_, p1, s1⟩ := hb Wx tk
  ⟨_, pg_sub p0 p1 (set_dict hu) (by intro v; cases b <;> first | rfl | cases hb0), snd_gsDct s0 s1⟩
theorem gsts_nil : GSts X [] gssNil := fun Wx tk => ⟨_, pgs_nil, snd_gssNil⟩
theorem gsts_cons {e : Expr} {es : List Expr} {m : GmS} {ms : GmsS} (h1 : GSt X e m) (h2 : GSts X es ms) (st : isStar e = false) : GSts X (e :: es) (gssCons m ms) := fun Wx tk =>
  let ⟨_, p1, s1⟩ := h1 Wx tk
  let ⟨_, p2, s2⟩ := h2 Wx tk
  ⟨_, pgs_cons p1 p2 (by rw [asg_cons st]; rfl), snd_gssCons s1 s2⟩
theorem ds_asgS {ts : List Expr} {k n : Nat} {p pos : Pos} {a : Expr} {ma : EM} {ms : GmsS} (hc : X.calm = true) (hg : GSts X ts ms) (st : ts.all (fun e => !isStar e) = true) (hl : n = ts.length) (ha : DE X a ma) (hw : swappedStores [.Tuple ts k p] a X.env = pure none) :
    DS X (.Assign [.Tuple ts k p] a pos) (sAsgS ma n ms) := fun Wx tk =>
  let ⟨_, p1, s1⟩ := ha Wx tk
  let ⟨_, p2, s2⟩ := hg Wx tk
  ⟨_, ps_asg p1 (pg_tup hc p2 (by rw [(asg_len (env := X.env) st).1, hl]) (asg_len (env := X.env) st).2) (by
      show swapsWith a (some (.Tuple ts k p)) pos.line X.env = pure false
      cases a <;> rfl) hw rfl, snd_asgS s1 s2⟩
/-! ### turned -/
def cTs1 (fe : FE) (C : Ctx) : Expr → Option GmS
  | .Subscript o (.Constant (.str k) j p) _ => match fe C false o, fe C false (.Constant (.str k) j p) with
    | some m, some n => some (gsDct m n)
    | _, _ => none
  | .Subscript o b _ => if isSlice b = false then match fe C false o, fe C false b with
      | some m, some n => some (gsLst m n)
      | _, _ => none
    else none
  | _ => none
def cTss (fe : FE) (C : Ctx) : List Expr → Option GmsS
  | [] => some gssNil
  | e :: es => match cTs1 fe C e, cTss fe C es with
    | some m, some ms => some (gssCons m ms)
    | _, _ => none
theorem cTs1_ok {fe : FE} (hf : SoundE fe) (g : Good X C) (hu : X.A.units + 1 < cLine) {e : Expr} {m : GmS} (h : cTs1 fe C e = some m) : GSt X e m ∧ isStar e = false := by
  unfold cTs1 at h
  split at h
  · split at h
    · rename_i m n z1 z2; cases h; exact ⟨gst_dct hu rfl (hf _ _ _ _ z1 X g) (hf _ _ _ _ z2 X g), rfl⟩
    · cases h
  · split at h
    · rename_i c
      split at h
      · rename_i m n z1 z2; cases h; exact ⟨gst_lst c (hf _ _ _ _ z1 X g) (hf _ _ _ _ z2 X g), rfl⟩
      · cases h
    · cases h
  · cases h
theorem cTss_ok {fe : FE} (hf : SoundE fe) (g : Good X C) (hu : X.A.units + 1 < cLine) : ∀ {es : List Expr} {ms : GmsS}, cTss fe C es = some ms → GSts X es ms ∧ es.all (fun e => !isStar e) = true
  | [], ms, h => by cases h; exact ⟨gsts_nil, rfl⟩
  | e :: es, ms, h => by
    unfold cTss at h
    split at h
    · rename_i m ms' z1 z2
      cases h
      obtain ⟨h1, s1⟩ := cTs1_ok hf g hu z1
      obtain ⟨h2, s2⟩ := cTss_ok hf g hu z2
      exact ⟨gsts_cons h1 h2 s1, by rw [List.all_cons, s1, s2]; rfl⟩
    · cases h
/-- what is stored: a tuple's items may be objects of the store -/
def cTv (fe : FE) (C : Ctx) : Expr → Option EM
  | .Tuple es _ _ => (cL (fe C true) es).map mTup
  | v => fe C false v
theorem cTv_ok {fe : FE} (hf : SoundE fe) (g : Good X C) {v : Expr} {m : EM} (h : cTv fe C v = some m) : DE X v m := by
  unfold cTv at h
  split at h
  · rename_i es k p
    cases z : cL (fe C true) es with
    | none => simp [z] at h
    | some ms => simp [z] at h; subst h; exact de_tup (cL_ok (fun e m q => hf C _ e m q X g) z).1
  · exact hf _ _ _ _ h X g
end
end DX

/-! DxN: statements turned; defs. -/
set_option linter.all false
set_option maxRecDepth 100000
set_option Elab.async false
namespace DX
open PySem PySem.Spec PyProof.Rows L2

/-! ### a, b = .. -/
/-- which names are stored from the right, by the scope -/
def swS (ts : List Expr) (value : Expr) (sc : Scope) : Option (Option (List Str)) :=
  match value with
  | .Tuple vs _ _ =>
    if (!(ts.length == 2 || ts.length == 3) || vs.length != ts.length) = true then some none
    else if (vs.any fun | .Starred .. => true | _ => false) = true then some none
    else
      let names := ts.filterMap fun
        | .Name id pos => if (sc.names.lookup id == some .local && pos.line == (ts.head?.map (·.pos.line)).getD 0) = true then some id else none
        | _ => none
      if (names.length != ts.length || names.eraseDups.length != names.length) = true then some none
      else if vs.all (foldedForSure 8) = true then some none
      else if vs.all (constantsAlone 8) = true then none
      else some (some names)
  | _ => some none
theorem swS_ok {ts : List Expr} {value : Expr} {env : Env} {k : Nat} {p : Pos} {r : Option (List Str)} (hk : env.scope.kind = .function) (h : swS ts value env.scope = some r) : swappedStores [.Tuple ts k p] value env = pure r := by
  have hb : env.blockKind = .function := by unfold Env.blockKind; rw [hk]; rfl
  cases value with
  | Tuple vs k2 p2 =>
    unfold swS at h
    unfold swappedStores
    dsimp only at h ⊢
    have e0 : (!(ts.length == 2 || ts.length == 3) || vs.length != ts.length || env.blockKind != .function) = (!(ts.length == 2 || ts.length == 3) || vs.length != ts.length) := by
      rw [hb]; simp
    rw [e0]
    split at h
    · rename_i c; cases h; exact if_pos c
    · rename_i c
      refine (if_neg c).trans ?_
      split at h
      · rename_i c2; cases h; exact if_pos c2
      · rename_i c2
        refine (if_neg c2).trans ?_
        split at h
        · rename_i c3; cases h; exact if_pos c3
        · rename_i c3
          refine (if_neg c3).trans ?_
          split at h
          · rename_i c4; cases h; exact if_pos c4
          · rename_i c4
            refine (if_neg c4).trans ?_
            split at h
            · cases h
            · rename_i c5
              cases h
              exact if_neg c5
  | _ => cases h; rfl

/-! three names from the right: the kit's own rule -/
section
variable {K : PySem.W.Frag} {mg : Str → Option Value} {Wx : WX}
def sPar3 (i j l : Nat) (a b c : EM) : SM := fun e st => (mL [a, b, c] e st).s e fun ds st1 => match ds with
  | [x, y, z] => .nx (((e.set i (some x)).set j (some y)).set l (some z)) st1
  | _ => .no
theorem snd_par3 {i j l : Nat} {ta : TA} {a b c : EM} (ha : SndL K mg ta Wx (mL [a, b, c])) : SndS K mg (tPar3 i j l ta) Wx (sPar3 i j l a b c) := by
  intro av σ e ρ H st Ds s er h
  refine ha av σ e ρ H st _ s er ((PostS.s er h).imp ?_)
  rintro vs H1 ⟨ds, ρ1, st1, x1, s1, r1, q1⟩
  split at q1
  · cases r1 with | cons r t =>
    cases t with | cons r2 t =>
    cases t with | cons r3 t =>
    cases t
    exact ⟨_, _, _, rfl, q1 _ ρ1 H1 .refl s1 ((((er.ext x1).set _ r).set _ r2).set _ r3)⟩
  · exact q1.elim
end

/-! ### one step of statements -/
variable {X : Cx} {C : Ctx}
structure GoodS (X : Cx) (C : Ctx) : Prop where
  g : Good X C
  own : PassesOwn (model X.prog X.w) X.A X.env X.xe
  kind : X.env.scope.kind = .function
  stk : X.stack = X.env :: X.outer
  frm : X.env.frame = some X.env.locals
abbrev FS := Ctx → Stmt → Option SM
def SoundS (f : FS) : Prop := ∀ C s m, f C s = some m → ∀ X, GoodS X C → DS X s m
def cSs (f : Stmt → Option SM) : List Stmt → Option SM
  | [] => some sNx
  | [s] => f s
  | s :: t :: r => match f s with
    | some m => match cSs f (t :: r) with
      | some n => some (sSeq m n)
      | none => none
    | none => none
theorem cSs_ok {f : Stmt → Option SM} (hf : ∀ s m, f s = some m → DS X s m) : ∀ {ss : List Stmt} {m : SM}, cSs f ss = some m → DSs X ss m
  | [], m, h => by cases h; exact dss_nil
  | [s], m, h => dss_one (hf s m h)
  | s :: t :: r, m, h => by
    unfold cSs at h
    split at h
    · rename_i m1 h1
      split at h
      · rename_i n hn
        cases h
        exact dss_cons (hf s m1 h1) (cSs_ok hf hn)
      · cases h
    · cases h
def isLoc (sc : Scope) (x : Str) : Bool := match sc.names.lookup x with
  | some .local => true
  | _ => false
def isCell (sc : Scope) (x : Str) : Bool := match sc.names.lookup x with
  | some .cell => true
  | _ => false
theorem isLoc_l {sc : Scope} {x : Str} (h : isLoc sc x = true) : sc.names.lookup x = some .local := by
  unfold isLoc at h
  split at h
  · rename_i q; exact q
  · cases h
theorem isCell_c {sc : Scope} {x : Str} (h : isCell sc x = true) : sc.names.lookup x = some .cell := by
  unfold isCell at h
  split at h
  · rename_i q; exact q
  · cases h
/-- a comprehension's value to a name that is a cell: nothing is swapped -/
theorem sw_cell {e : Expr} {x : Str} {p : Pos} {l : Nat} {env : Env} (h : env.scope.names.lookup x = some .cell) : swapsWith e (some (.Name x p)) l env = pure false := by
  have k : env.kindOf x = some .cell := h
  cases e <;> first | rfl | (unfold swapsWith; dsimp only; rw [k]; have q : (some NameKind.cell == some NameKind.local) = false := rfl; simp only [q, Bool.and_false, Bool.false_and])
/-- x = v -/
def cSet (fe : FE) (ft : FT) (C : Ctx) (x : Str) (px : Pos) (v : Expr) (pos : Pos) : Option SM :=
  if C.tg x = true then match isIdx C.N x with
    | some i => if isComp v = false ∨ isCell C.sc x = true then (fe C (C.muts.contains x) v).map fun m => sAsg m (gmName i)
      else match v with
        | .ListComp elt gens scope p2 =>
          if isLoc C.sc x = true ∧ (px.line == p2.line) = true ∧ (scope.names.any fun (n, k) => n == x && (k == .local || k == .cell)) = false then
            (cLc fe ft C (C.muts.contains x) elt gens scope).map fun P => sAsg (mLc (C.muts.contains x) P.im (P.own.map (·.2)) P.t.m P.tc P.me) (gmName i)
          else none
        | _ => none
    | none => none
  else none
theorem cSet_ok {fe : FE} {ft : FT} (hf : SoundE fe) (ht : SoundT ft) (g : GoodS X C) {x : Str} {px pos : Pos} {v : Expr} {m : SM} (h : cSet fe ft C x px v pos = some m) : DS X (.Assign [.Name x px] v pos) m := by
  unfold cSet at h
  split at h
  · rename_i htg
    obtain ⟨h1, h2⟩ := g.g.tgs x htg
    split at h
    · rename_i i hi
      have hN : X.N[i]? = some x := by rw [g.g.hN]; exact isIdx_get hi
      split at h
      · rename_i c
        cases z : fe C (C.muts.contains x) v with
        | none => simp only [z] at h; cases h
        | some n =>
          simp only [z, Option.map_some, Option.some.injEq] at h
          subst h
          have hv := hf _ _ _ _ z X g.g
          rcases c with c | c
          · exact ds_set g.g.nd hN h1 h2 hv c
          · intro Wx tk
            obtain ⟨t, p1, s1⟩ := hv Wx tk
            exact ⟨_, ps_set g.g.nd hN h1 p1 (sw_cell (by rw [g.g.sc]; exact isCell_c c)) h2, snd_asg s1 snd_gname⟩
      · split at h
        · rename_i elt gens scope p2 _
          split at h
          · rename_i c
            cases z : cLc fe ft C (C.muts.contains x) elt gens scope with
            | none => simp only [z] at h; cases h
            | some P =>
              simp only [z, Option.map_some, Option.some.injEq] at h
              subst h
              obtain ⟨tg, iter, ifs, rfl, q1, q2, q3, q4, q5, q6, q7⟩ := cLc_ok hf ht g.g z
              have hl : X.env.scope.names.lookup x = some .local := by rw [g.g.sc]; exact isLoc_l c.1
              exact DX.ds_setLc g.g.calm g.g.nd hN hl (L2.sw_true g.kind hl c.2.1 c.2.2) q1 q2 q3 q4 q5 q6 q7 (Classical.choice g.g.sh)
          · cases h
        · cases h
    · cases h
  · cases h
/-- a, b = v -/
def cAsgT (fe : FE) (C : Ctx) (ts : List Expr) (v : Expr) : Option SM :=
  match swS ts v C.sc with
  | some none => match cTgs C 3 ts with
    | some l => (fe C false v).map fun m => sAsg m (Tg.tup l).m
    | none => match cTss fe C ts, cTv fe C v with
      | some ms, some m => some (sAsgS m ts.length ms)
      | _, _ => none
  | some (some _) => match ts, v with
    | [.Name x _, .Name y _], .Tuple [a, b] _ _ => if isLoc C.sc x = true ∧ isLoc C.sc y = true ∧ isStar a = false ∧ isStar b = false then match isIdx C.N x, isIdx C.N y with
        | some i, some j => if i ≠ j then match fe C (C.muts.contains x) a, fe C (C.muts.contains y) b with
            | some m, some n => some (sPar i j m n)
            | _, _ => none
          else none
        | _, _ => none
      else none
    | [.Name x _, .Name y _, .Name z _], .Tuple [a, b, c] _ _ => if isLoc C.sc x = true ∧ isLoc C.sc y = true ∧ isLoc C.sc z = true ∧ isStar a = false ∧ isStar b = false ∧ isStar c = false then match isIdx C.N x, isIdx C.N y, isIdx C.N z with
        | some i, some j, some l => if i ≠ j ∧ i ≠ l ∧ j ≠ l then match fe C (C.muts.contains x) a, fe C (C.muts.contains y) b, fe C (C.muts.contains z) c with
            | some m, some n, some k => some (sPar3 i j l m n k)
            | _, _, _ => none
          else none
        | _, _, _ => none
      else none
    | _, _ => none
  | none => none
theorem filt2 {P : Expr → Option Str} {a b : Expr} {names : List Str} (h : List.filterMap P [a, b] = names) (hl : names.length = 2) : ∃ x y, P a = some x ∧ P b = some y ∧ names = [x, y] := by
  cases pa : P a <;> cases pb : P b <;> simp [pa, pb] at h <;> subst h <;> simp at hl
  exact ⟨_, _, rfl, rfl, rfl⟩
theorem filt3 {P : Expr → Option Str} {a b c : Expr} {names : List Str} (h : List.filterMap P [a, b, c] = names) (hl : names.length = 3) : ∃ x y z, P a = some x ∧ P b = some y ∧ P c = some z ∧ names = [x, y, z] := by
  cases pa : P a <;> cases pb : P b <;> cases pc : P c <;> simp [pa, pb, pc] at h <;> subst h <;> simp at hl
  exact ⟨_, _, _, rfl, rfl, rfl, rfl⟩
theorem swS_names2 {x y : Str} {px py : Pos} {v : Expr} {sc : Scope} {names : List Str} (h : swS [.Name x px, .Name y py] v sc = some (some names)) : names = [x, y] := by
  unfold swS at h
  split at h
  · split at h; · cases h
    split at h; · cases h
    dsimp only at h
    split at h; · cases h
    rename_i c
    split at h; · cases h
    split at h; · cases h
    cases h
    have hl : ∀ l : List Str, ¬ ((l.length != 2 || l.eraseDups.length != l.length) = true) → l.length = 2 := by
      intro l z
      simp only [Bool.or_eq_true, not_or, bne_iff_ne, ne_eq, Classical.not_not] at z
      exact z.1
    obtain ⟨x', y', h1, h2, h3⟩ := filt2 rfl (hl _ c)
    rw [h3]
    simp only at h1 h2
    split at h1
    · split at h2
      · cases h1; cases h2; rfl
      · cases h2
    · cases h1
  · cases h
theorem swS_names3 {x y z : Str} {px py pz : Pos} {v : Expr} {sc : Scope} {names : List Str} (h : swS [.Name x px, .Name y py, .Name z pz] v sc = some (some names)) : names = [x, y, z] := by
  unfold swS at h
  split at h
  · split at h; · cases h
    split at h; · cases h
    dsimp only at h
    split at h; · cases h
    rename_i c
    split at h; · cases h
    split at h; · cases h
    cases h
    have hl : ∀ l : List Str, ¬ ((l.length != 3 || l.eraseDups.length != l.length) = true) → l.length = 3 := by
      intro l z
      simp only [Bool.or_eq_true, not_or, bne_iff_ne, ne_eq, Classical.not_not] at z
      exact z.1
    obtain ⟨x', y', z', h1, h2, h3, h4⟩ := filt3 rfl (hl _ c)
    rw [h4]
    simp only at h1 h2 h3
    split at h1
    · split at h2
      · split at h3
        · cases h1; cases h2; cases h3; rfl
        · cases h3
      · cases h2
    · cases h1
  · cases h
theorem cAsgT_ok {fe : FE} (hf : SoundE fe) (g : GoodS X C) {ts : List Expr} {k : Nat} {p pos : Pos} {v : Expr} {m : SM} (h : cAsgT fe C ts v = some m) : DS X (.Assign [.Tuple ts k p] v pos) m := by
  unfold cAsgT at h
  split at h
  · rename_i hw
    split at h
    · rename_i l hl
      cases z : fe C false v with
      | none => simp only [z] at h; cases h
      | some n =>
        simp only [z, Option.map_some, Option.some.injEq] at h
        subst h
        obtain ⟨h1, h2, h3⟩ := cTgs_ok g.g hl
        exact ds_asgT (t := .tup l) (pg_tupT g.g.calm h1 h2 h3) (hf _ _ _ _ z X g.g) (swS_ok g.kind (by rw [g.g.sc]; exact hw))
    · have hu := g.g.units
      split at h
      · rename_i ms m z1 z2
        cases h
        obtain ⟨h1, h2⟩ := cTss_ok hf g.g (by omega) z1
        exact ds_asgS g.g.calm h1 h2 rfl (cTv_ok hf g.g z2) (swS_ok g.kind (by rw [g.g.sc]; exact hw))
      · cases h
  · rename_i names hw
    split at h
    · rename_i x px y py a b k2 p2
      obtain rfl := swS_names2 hw
      split at h
      · rename_i c
        split at h
        · rename_i i j hi hj
          split at h
          · rename_i hij
            split at h
            · rename_i m1 m2 z1 z2
              cases h
              exact ds_par g.g.calm g.g.nd (by rw [g.g.hN]; exact isIdx_get hi) (by rw [g.g.hN]; exact isIdx_get hj) hij (by rw [g.g.sc]; exact isLoc_l c.1) (by rw [g.g.sc]; exact isLoc_l c.2.1) (hf _ _ _ _ z1 X g.g) (hf _ _ _ _ z2 X g.g) c.2.2.1 c.2.2.2 (swS_ok g.kind (by rw [g.g.sc]; exact hw))
            · cases h
          · cases h
        · cases h
      · cases h
    · rename_i x px y py z pz a b c' k2 p2
      obtain rfl := swS_names3 hw
      split at h
      · rename_i c
        split at h
        · rename_i i j l hi hj hl
          split at h
          · rename_i hij
            split at h
            · rename_i m1 m2 m3 z1 z2 z3
              cases h
              intro Wx tk
              obtain ⟨t, p1, s1⟩ := dl_cons (hf _ _ _ _ z1 X g.g) (dl_cons (hf _ _ _ _ z2 X g.g) (dl_cons (hf _ _ _ _ z3 X g.g) dl_nil c.2.2.2.2.2) c.2.2.2.2.1) c.2.2.2.1 Wx tk
              exact ⟨_, ps_par3 g.g.calm g.g.nd (by rw [g.g.hN]; exact isIdx_get hi) (by rw [g.g.hN]; exact isIdx_get hj) (by rw [g.g.hN]; exact isIdx_get hl) hij.1 hij.2.1 hij.2.2 (by rw [g.g.sc]; exact isLoc_l c.1) (by rw [g.g.sc]; exact isLoc_l c.2.1) (by rw [g.g.sc]; exact isLoc_l c.2.2.1) p1 (swS_ok g.kind (by rw [g.g.sc]; exact hw)), snd_par3 s1⟩
            · cases h
          · cases h
        · cases h
      · cases h
    · cases h
  · cases h
/-- a, *b = v -/
def cStarA (fe : FE) (C : Ctx) (ts : List Expr) (v : Expr) : Option SM :=
  match ts.findIdx? isStar, swS ts v C.sc, cTgs C 3 (ts.map unStar) with
  | some i, some none, some l => match ts[i]? with
    | some (.Starred (.Name x _) _) => (fe C false v).map fun m => sStar (C.muts.contains x) i ts.length l m
    | _ => none
  | _, _, _ => none
theorem cStarA_ok {fe : FE} (hf : SoundE fe) (g : GoodS X C) {ts : List Expr} {k : Nat} {p pos : Pos} {v : Expr} {m : SM} (h : cStarA fe C ts v = some m) : DS X (.Assign [.Tuple ts k p] v pos) m := by
  unfold cStarA at h
  split at h
  · rename_i i l z1 hw z2
    split at h
    · rename_i x p1 p2 z3
      cases z : fe C false v with
      | none => simp only [z] at h; cases h
      | some n =>
        simp only [z, Option.map_some, Option.some.injEq] at h
        subst h
        obtain ⟨h1, h2, h3⟩ := cTgs_ok g.g z2
        obtain ⟨e1, e2, e3⟩ := star_each (env := X.env) h2
        intro Wx tk
        obtain ⟨t, q1, s1⟩ := hf _ _ _ _ z X g.g Wx tk
        have lt : i < ts.length := (List.getElem?_eq_some_iff.mp z3).1
        exact ⟨_, ps_asg q1 (pg_star g.g.calm h1 e1 e2 (by rw [e3, z1]) lt) (by
          show swapsWith v (some (.Tuple ts k p)) pos.line X.env = pure false
          cases v <;> rfl) (swS_ok g.kind (by rw [g.g.sc]; exact hw)) rfl, snd_star s1⟩
    · cases h
  · cases h
/-! ### what a suite gives back -/
def cSi (C : Ctx) (n : Str) : Expr → Option SI
  | .Constant (.str x) _ _ => some (.txt x)
  | .Call (.Name f _) [.Name m _, .Name y _] [] _ => if f = "isinstance" ∧ m = n ∧ isGl C.sc f = true ∧ isGl C.sc y = true ∧ plainName y = true then some (.isi y) else none
  | _ => none
theorem cSi_ok (g : Good X C) {n : Str} {e : Expr} {s : SI} (h : cSi C n e = some s) : SIe X n e s := by
  unfold cSi at h
  split at h
  · cases h; exact .txt
  · split at h
    · rename_i c
      obtain ⟨rfl, rfl, c1, c2, c3⟩ := c
      cases h
      exact .isi (g.gl c1) (g.blt _ (by decide +kernel)) (g.gl c2) (plain_db c3).1
    · cases h
  · cases h
def cSis (C : Ctx) (n : Str) : List Expr → Option (List SI)
  | [] => some []
  | e :: r => match cSi C n e, cSis C n r with
    | some s, some ss => some (s :: ss)
    | _, _ => none
theorem cSis_ok (g : Good X C) {n : Str} : ∀ {es : List Expr} {ss : List SI}, cSis C n es = some ss → Paired (SIe X n) es ss
  | [], ss, h => by cases h; exact .nil
  | e :: r, ss, h => by
    unfold cSis at h
    split at h
    · rename_i s ss' h1 h2
      cases h
      exact .cons (cSi_ok g h1) (cSis_ok g h2)
    · cases h
def cSu (C : Ctx) (n : Str) : Stmt → Option (Bool × List SI)
  | .Return (some (.List es _)) _ => (cSis C n es).map fun ss => (true, ss)
  | .Return (some e) _ => (cSi C n e).map fun s => (false, [s])
  | _ => none
theorem cSu_ok (g : Good X C) {n : Str} {st : Stmt} {u : Bool × List SI} (h : cSu C n st = some u) : Su X n st u := by
  unfold cSu at h
  split at h
  · rename_i es p p2
    cases z : cSis C n es with
    | none => simp [z] at h
    | some ss => simp [z] at h; subst h; exact .lst (cSis_ok g z)
  · rename_i e p _
    cases z : cSi C n e with
    | none => simp [z] at h
    | some s => simp [z] at h; subst h; exact .one (cSi_ok g z)
  · cases h
def stepS (fe : FE) (ft : FT) (fuel : Nat) (fs : FS) : FS := fun C s => match s with
  | .Pass _ => some sNx
  | .Break _ => some fun e st => .bk e st
  | .Continue _ => some fun e st => .ct e st
  | .Raise (some (.Call (.Name x _) [] [] _)) none _ => if x ∈ C.ex.excs ∧ isGl C.sc x = true ∧ plainName x = true then some (sRaise x) else some fun _ _ => .no
  | .Raise _ _ _ => some fun _ _ => .no
  | .Try body [.ExceptHandler (some (.Name x _)) (some n) [st] _] [] [] _ => if x ∈ C.ex.excs ∧ isGl C.sc x = true ∧ plainName x = true ∧ isLoc C.sc n = true ∧ plainName n = true then
      match isIdx C.N n, cSu C n st, cSs (fs C) body with
      | some i, some u, some m => some (sTry C.ex.sub C.ex.isi x i u m)
      | _, _, _ => none
    else none
  | .Expr a _ => if isComp a = false then (fe C false a).map sExpr else none
  | .Return none _ => some fun _ st => .rt .non st
  | .Return (some a) _ => (fe C false a).map sRet
  | .If c b1 b2 _ => match ft C c, cSs (fs C) b1, cSs (fs C) b2 with
    | some m, some m1, some m2 => some (sIf m m1 m2)
    | _, _, _ => none
  | .Assign [.Name x px] v pos => cSet fe ft C x px v pos
  | .Assign [.Tuple ts _ _] v _ => if (ts.findIdx? isStar).isSome = true then cStarA fe C ts v else cAsgT fe C ts v
  | .Assign [.Subscript o (.Constant (.str k) j p) _] v _ => if isComp v = false then match fe C false o, fe C false (.Constant (.str k) j p), fe C true v with
      | some m, some n, some w => some (sDPutM m n w)
      | _, _, _ => none
    else none
  | .Assign [.Subscript o b _] v _ => if isSlice b = false then match fe C false o, fe C false b, fe C false v with
      | some m, some n, some w => some (sLPutM m n w)
      | _, _, _ => none
    else none
  | .For tg iter body [] _ => if isSet iter = false then match cTg C 3 tg, cI fe C tg iter, cSs (fs C) body with
      | some t, some im, some m => some (sFor im t.m m)
      | _, _, _ => none
    else none
  | .While c body [] _ => match ft C c, cSs (fs C) body with
    | some m, some n => some (whileL m n fuel)
    | _, _ => none
  | _ => none
theorem stepS_ok {fe : FE} {ft : FT} {fuel : Nat} {fs : FS} (hf : SoundE fe) (ht : SoundT ft) (hs : SoundS fs) : SoundS (stepS fe ft fuel fs) := by
  intro C s m h X g
  have hfe : ∀ e m, fe C false e = some m → DE X e m := fun e m q => hf C false e m q X g.g
  have hfs : ∀ s m, fs C s = some m → DS X s m := fun s m q => hs C s m q X g
  have hu := g.g.units
  unfold stepS at h
  split at h
  · cases h; exact ds_pass
  · cases h; exact ds_break
  · cases h; exact ds_cont
  · split at h
    · rename_i c
      cases h
      exact ds_raise0 g.g.calm (g.g.exn.exF _ c.1) (g.g.gl c.2.1) (plain_db c.2.2).1
    · cases h; exact ds_no
  · cases h; exact ds_no
  · rename_i body x px n st p1 p2
    split at h
    · rename_i c
      obtain ⟨c1, c2, c3, c4, c5⟩ := c
      split at h
      · rename_i i u m z1 z2 z3
        cases h
        obtain ⟨Cx_, hmx, _⟩ := (g.g.exn.exF _ c1).ex
        have hl : X.env.scope.names.lookup n = some .local := by rw [g.g.sc]; exact isLoc_l c4
        exact ds_try g.g.exn.exT (Cx_ := Cx_) g.stk g.frm g.g.nd (by rw [g.g.hN]; exact isIdx_get z1) hl (.inl hl) (plain_db c5).1 (plain_db c5).2 ⟨g.g.gl c2, (plain_db c3).1, .inl hmx⟩ hmx
          (fun pn xe own => cSs_ok (fun s m q => hs C s m q (X.tr pn xe) ⟨⟨g.g.hN, g.g.nd, g.g.sc, g.g.calm, g.g.free, g.g.units, g.g.sh, g.g.tgs, g.g.fn, g.g.const, g.g.blt, g.g.exn, g.g.room, g.g.gen⟩, own, g.kind, g.stk, g.frm⟩) z3) (cSu_ok g.g z2)
      · cases h
    · cases h
  · split at h
    · rename_i a p c
      cases z : fe C false a with
      | none => simp [z] at h
      | some n => simp [z] at h; subst h; exact ds_expr (hfe _ _ z) c
    · cases h
  · cases h; exact ds_retN
  · rename_i a p
    cases z : fe C false a with
    | none => simp [z] at h
    | some n => simp [z] at h; subst h; exact ds_ret (hfe _ _ z)
  · split at h
    · rename_i m0 m1 m2 z0 z1 z2; cases h; exact ds_if (ht _ _ _ z0 X g.g) (cSs_ok hfs z1) (cSs_ok hfs z2)
    · cases h
  · exact cSet_ok hf ht g h
  · split at h
    · exact cStarA_ok hf g h
    · exact cAsgT_ok hf g h
  · split at h
    · rename_i c
      split at h
      · rename_i m1 m2 m3 z1 z2 z3; cases h; exact ds_dput (by omega) (hfe _ _ z1) (hfe _ _ z2) (hf _ _ _ _ z3 X g.g) c
      · cases h
    · cases h
  · split at h
    · rename_i c
      split at h
      · rename_i m1 m2 m3 z1 z2 z3; cases h; exact ds_lput c (hfe _ _ z1) (hfe _ _ z2) (hfe _ _ z3)
      · cases h
    · cases h
  · split at h
    · rename_i c
      split at h
      · rename_i t im m1 z1 z2 z3; cases h; exact ds_for g.own g.g.calm (cI_ok hf g.g z2) (cTg_ok g.g z1) (cSs_ok hfs z3) c
      · cases h
    · cases h
  · split at h
    · rename_i m1 m2 z1 z2; cases h; exact ds_while g.own (ht _ _ _ z1 X g.g) (cSs_ok hfs z2)
    · cases h
  · cases h
def cSt (ne fuel : Nat) : Nat → FS
  | 0 => fun _ _ => none
  | n + 1 => stepS (cET ne).1 (cET ne).2 fuel (cSt ne fuel n)
theorem cSt_ok (ne fuel : Nat) : ∀ n, SoundS (cSt ne fuel n)
  | 0 => fun _ _ _ h => (nomatch h)
  | n + 1 => stepS_ok (cET_ok ne).1 (cET_ok ne).2 (cSt_ok ne fuel n)

/-! ### a def -/
def ctxOf (N : List Str) (sc : Scope) (fns : Str → Option FI) (pats : Str → List (Nat × List Str)) (consts : Str → Option D) (muts : List Str) (xi : ExI) : Ctx := ⟨N, sc, isOwn sc, fns, pats, consts, muts, xi, "", 0⟩
/-- of a def that holds a generator expression -/
def ctxOfG (self : Str) (N : List Str) (sc : Scope) (fns : Str → Option FI) (pats : Str → List (Nat × List Str)) (consts : Str → Option D) (muts : List Str) (xi : ExI) : Ctx := ⟨N, sc, isOwn sc, fns, pats, consts, muts, xi, self, 1⟩
theorem fng_comp {P : Program} {w : World} {K : PySem.W.Frag} {mg : Str → Option Value} {base : Heap} {k : Nat} {f : Addr} {x qual : Str} {st : Stmt} {fd : FuncData} {N : List Str} {F : FI} {body : SM} {ne fuel n : Nat}
    {fns : Str → Option FI} {pats : Str → List (Nat × List Str)} {consts : Str → Option D} {muts : List Str} {xi : ExI}
    (fn : Fun K x qual st f fd) (S : FnScope N F.ps (defScope st)) (hF : F.run = runBody N.length body)
    (hc : cSs (cSt ne fuel n (ctxOf N (defScope st) fns pats consts muts xi)) (defBody st) = some body)
    (hfn : ∀ y G, fns y = some G → ∃ a gd, mg y = some (.ref a) ∧ PySem.W.keepIn K (.ref a) = true ∧ FnG P w K mg base k a gd G.ps (spF K mg G) ∧ ∀ j ks, (j, ks) ∈ pats y → Bnd gd G.ps j ks (permOf G.ps j ks))
    (hco : ∀ y d, consts y = some d → ∃ v u, mg y = some u ∧ RelV v u ∧ ∀ av ρ H, Rel ⟨K, mg, av⟩ ρ H d v)
    (hb : ∀ y ∈ blts, mg y = none) (hx : ExOk P w K mg xi) : FnG P w K mg base (k + 1) f fd F.ps (spF K mg F) := by
  refine fng_of fn S hF fun cd A outer s H E _ fr hr => ?_
  have g : GoodS (cxOf (L2.CX P w) P w K mg base N qual (defScope st) f cd A outer s H E) (ctxOf N (defScope st) fns pats consts muts xi) := by
    refine ⟨⟨rfl, S.nd, rfl, rfl, fr, ?_, ⟨s⟩, fun y hy => ?_, fun y G hG => ?_, hco, hb, hx, hr.mono (Nat.zero_le _), fun h => absurd (show ("" : Str) ∈ tbNames from h) (by decide)⟩, passes_of rfl, S.kind, rfl, rfl⟩
    · have := hr.un
      show (A.deeper _).units + 200 < cLine
      omega
    · have h' : isOwn (defScope st) y = true := hy
      unfold isOwn at h'
      show Loc (defScope st) y ∧ _
      cases q : (defScope st).names.lookup y with
      | none => rw [q] at h'; cases h'
      | some kd => cases kd with
        | «local» => exact ⟨.inl q, .inl rfl⟩
        | cell => exact ⟨.inr q, .inl rfl⟩
        | free => rw [q] at h'; cases h'
        | globalExplicit => rw [q] at h'; cases h'
        | globalImplicit => rw [q] at h'; cases h'
    · obtain ⟨a, gd, h1, h2, h3, h4⟩ := hfn y G hG
      exact ⟨k, a, gd, h1, h2, h3, hr, h4⟩
  exact cSs_ok (fun s m q => cSt_ok ne fuel n _ s m q _ g) hc
/-- a def that holds a generator expression -/
theorem fng_compG {P : Program} {w : World} {K : PySem.W.Frag} {mg : Str → Option Value} {base : Heap} {k : Nat} {f : Addr} {x qual : Str} {st : Stmt} {fd : FuncData} {N : List Str} {F : FI} {body : SM} {ne fuel n : Nat}
    {fns : Str → Option FI} {pats : Str → List (Nat × List Str)} {consts : Str → Option D} {muts : List Str} {xi : ExI} {pr : Addr × Addr}
    (fn : Fun K x qual st f fd) (S : FnScope N F.ps (defScope st)) (hF : F.run = runBody N.length body)
    (hc : cSs (cSt ne fuel n (ctxOfG x N (defScope st) fns pats consts muts xi)) (defBody st) = some body)
    (hfn : ∀ y G, fns y = some G → ∃ a gd, mg y = some (.ref a) ∧ PySem.W.keepIn K (.ref a) = true ∧ FnG P w K mg base k a gd G.ps (spF K mg G) ∧ ∀ j ks, (j, ks) ∈ pats y → Bnd gd G.ps j ks (permOf G.ps j ks))
    (hco : ∀ y d, consts y = some d → ∃ v u, mg y = some u ∧ RelV v u ∧ ∀ av ρ H, Rel ⟨K, mg, av⟩ ρ H d v)
    (hb : ∀ y ∈ blts, mg y = none) (hx : ExOk P w K mg xi) (hn : PySem.W.nsIn K mainGlobals x = some (some (.ref f))) (ht : PySem.W.tabIn K x = some pr) (hT : GxR.TabB base mg pr.1 pr.2) : FnG P w K mg base (k + 2) f fd F.ps (spF K mg F) := by
  obtain ⟨c, P1⟩ := pr
  refine fng_of (k := k + 1) fn S hF fun cd A outer s H E hcd fr hr => ?_
  have hc' : cd = .ref c := by
    obtain ⟨oc, od, kV, doc, pm, an, cdv, ct, osl, e, look, _⟩ := fn.ex
    have ht' := ht
    unfold PySem.W.tabIn at ht'
    rw [hn] at ht'
    dsimp only at ht'
    rw [look] at ht'
    dsimp only at ht'
    rw [hcd] at ht'
    cases cd with
    | ref c2 =>
      dsimp only at ht'
      cases q : K.lookup c2 with
      | none => rw [q] at ht'; exact (nomatch ht')
      | some o =>
        rw [q] at ht'
        obtain ⟨cl, dd, da, sl⟩ := o
        cases da with
        | fields vs =>
          dsimp only at ht'
          cases q2 : vs[11]? with
          | none => rw [q2] at ht'; exact (nomatch ht')
          | some v =>
            rw [q2] at ht'
            cases v with
            | ref P => dsimp only at ht'; cases ht'; rfl
            | _ => exact (nomatch ht')
        | _ => exact (nomatch ht')
    | _ => exact (nomatch ht')
  have g : GoodS (cxOf (L2.CX P w) P w K mg base N qual (defScope st) f cd A outer s H E) (ctxOfG x N (defScope st) fns pats consts muts xi) := by
    refine ⟨⟨rfl, S.nd, rfl, rfl, fr, ?_, ⟨s⟩, fun y hy => ?_, fun y G hG => ?_, hco, hb, hx, hr.mono (Nat.le_add_left _ _), fun _ => ⟨c, P1, ht, hc', hT⟩⟩, passes_of rfl, S.kind, rfl, rfl⟩
    · have := hr.un
      show (A.deeper _).units + 200 < cLine
      omega
    · have h' : isOwn (defScope st) y = true := hy
      unfold isOwn at h'
      show Loc (defScope st) y ∧ _
      cases q : (defScope st).names.lookup y with
      | none => rw [q] at h'; cases h'
      | some kd => cases kd with
        | «local» => exact ⟨.inl q, .inl rfl⟩
        | cell => exact ⟨.inr q, .inl rfl⟩
        | free => rw [q] at h'; cases h'
        | globalExplicit => rw [q] at h'; cases h'
        | globalImplicit => rw [q] at h'; cases h'
    · obtain ⟨a, gd, h1, h2, h3, h4⟩ := hfn y G hG
      exact ⟨k, a, gd, h1, h2, h3, hr, h4⟩
  exact cSs_ok (fun s m q => cSt_ok ne fuel n _ s m q _ g) hc
end DX

/-! DxO: the end: a law whose def comes to True. -/
set_option linter.all false
set_option maxRecDepth 100000
set_option Elab.async false
namespace DX
open PySem PySem.Spec PyProof.Rows L2

/-- the script's object -/
def scriptObj (vs : List Value) : Obj := { cls := .type "list", data := .seq vs.toArray }
/-- an empty table of a code object -/
abbrev tab0 : Obj := { cls := .none, data := .fields #[] }
/-- the code objects whose tables are tracked, and these -/
def tabPairs (K : PySem.W.Frag) : List (Addr × Addr) := tbNames.filterMap fun x => PySem.W.tabIn K x
theorem tabs_pairs {K : PySem.W.Frag} {P : Addr} : P ∈ tabsOf K ↔ ∃ p ∈ tabPairs K, p.2 = P := by
  unfold tabsOf tabPairs
  constructor
  · intro h
    obtain ⟨x, hx, e⟩ := List.mem_filterMap.mp h
    cases q : PySem.W.tabIn K x with
    | none => rw [q] at e; cases e
    | some p =>
      rw [q] at e
      exact ⟨p, List.mem_filterMap.mpr ⟨x, hx, q⟩, Option.some.inj e⟩
  · rintro ⟨p, hp, rfl⟩
    obtain ⟨x, hx, e⟩ := List.mem_filterMap.mp hp
    exact List.mem_filterMap.mpr ⟨x, hx, by rw [e]; rfl⟩
/-- what the head must say of the tables -/
structure TabsAt0 (K : PySem.W.Frag) (mg : Str → Option Value) (h : Heap) : Prop where
  tab : ∀ p ∈ tabPairs K, h.get? p.2 = some tab0 ∧ K.lookup p.2 = none ∧ PySem.W.CodeHd h p.1 p.2
  bm : ∃ (bm : Addr) (ob : Obj), mg "__builtins__" = some (.ref bm) ∧ bm ≠ builtinsNs ∧ h.get? bm = some ob ∧ ob.cls = .type "module" ∧ ob.dict = some builtinsNs ∧ ob.data = .plain
/-- the abstract heap at the entry: the script, unless the written part has it; the tables -/
def entryH (K : PySem.W.Frag) (a : Addr) (vs : List Value) (ns : List Int) : Hp := fun b =>
  if b ∈ tabsOf K then some (.tbl #[]) else if b = a ∧ K.lookup a = none then some (.frz (scriptObj vs) (.lst (ns.map V.int))) else none
theorem entryH_some {K : PySem.W.Frag} {a b : Addr} {vs : List Value} {ns : List Int} {u : HO} (h : entryH K a vs ns b = some u) : (b ∈ tabsOf K ∧ u = .tbl #[]) ∨ (b = a ∧ K.lookup a = none ∧ u = .frz (scriptObj vs) (.lst (ns.map V.int))) := by
  unfold entryH at h
  split at h
  · rename_i c; cases h; exact .inl ⟨c, rfl⟩
  · split at h
    · rename_i c; cases h; exact .inr ⟨c.1, c.2, rfl⟩
    · cases h
theorem law_run {P : Program} {w : World} {K : PySem.W.Frag} {mg mb : Str → Option Value} {k : Nat} {fa a : Addr} {x : Str} {F : FI} {s₁ : Shared} {vs : List Value} {ns : List Int} {st' : Sto}
    (inH0 : K.In s₁.heap) (nsG : s₁.heap.Ns mainGlobals mg) (hb : s₁.heap.Ns builtinsNs mb) (isBoot : ∀ x : Str, x ≠ "__name__" → mb x = bootBuiltins x) (noLim0 : s₁.heap.NoLimit) (hg : s₁.gens = #[]) (tb : TabsAt0 K mg s₁.heap)
    (ha : s₁.heap.get? a = some (scriptObj vs)) (hi : IntsAre vs ns) (hl : ns.length ≤ sizeLine) (hr : Room k callerA) (hp : F.ps = [x])
    (fn : ∀ base : Heap, K.In base → base.Ns mainGlobals mg → (∀ p ∈ tabPairs K, GxR.TabB base mg p.1 p.2) → ∃ fd : FuncData, FnG P w K mg base k fa fd F.ps (spF K mg F) ∧ ∀ (s : Shared) (u : Value), BindsTo s fd ⟨[u], []⟩ [(x, u)])
    (run : F.run [.lst (ns.map D.int)] [] = .ok (.bl true) st') :
    codeAny (model P w) callerA (.call (.ref fa) ⟨[.ref a], []⟩) (fun out z => out = .ok (.ret (.bool true)) ∧ OldK s₁.heap z.heap ∧ z.os = s₁.os ∧ AllBare z.gens) s₁ := by
  have rv := vals_ints hi
  have lv : ns.length = vs.length := by have := rv.length; rwa [List.length_map] at this
  generalize hH : entryH K a vs ns = H
  have only : ∀ {b : Addr} {u : HO}, H b = some u → (b ∈ tabsOf K ∧ u = .tbl #[]) ∨ (b = a ∧ K.lookup a = none ∧ u = .frz (scriptObj vs) (.lst (ns.map V.int))) := fun {b u} e => entryH_some (by rw [hH]; exact e)
  have isTab : ∀ {b : Addr}, b ∈ tabsOf K → s₁.heap.get? b = some tab0 ∧ K.lookup b = none := fun {b} h => by
    obtain ⟨p, hp, rfl⟩ := tabs_pairs.mp h
    obtain ⟨t1, t2, _⟩ := tb.tab p hp
    exact ⟨t1, t2⟩
  have hTab : ∀ {b : Addr}, b ∈ tabsOf K → H b = some (.tbl #[]) := fun {b} h => by
    rw [← hH]; exact if_pos h
  have hok : HOk P w H s₁.heap := by
    intro b u e
    rcases only e with ⟨hb, rfl⟩ | ⟨rfl, _, rfl⟩
    · exact (isTab hb).1
    · exact ⟨ha, by rw [List.length_map]; exact hl, vs, _, rv, ha⟩
  have notK : ∀ {b : Addr} {o : Obj}, K.lookup b = some o → H b = none := by
    intro b o e
    cases q : H b with
    | none => rfl
    | some u =>
      rcases only q with ⟨hb, rfl⟩ | ⟨rfl, n, _⟩
      · rw [(isTab hb).2] at e; cases e
      · rw [n] at e; cases e
  -- what is neither a table nor the script
  have notT : ∀ {b : Addr} {o : Obj}, s₁.heap.get? b = some o → o.data ≠ .fields #[] → (∀ us n, o.data ≠ .seq us n) → H b = none := by
    intro b o e d1 d2
    cases q : H b with
    | none => rfl
    | some u =>
      rcases only q with ⟨hb, rfl⟩ | ⟨rfl, _, _⟩
      · rw [(isTab hb).1] at e; cases e; exact absurd rfl d1
      · rw [ha] at e; cases e; exact absurd rfl (d2 _ _)
  have notD : ∀ {b : Addr} {o : Obj} {es : Array DictEntry} {ep : Nat}, s₁.heap.get? b = some o → o.data = .dict es ep → H b = none := fun {b o es ep} e d =>
    notT e (by rw [d]; intro z; cases z) fun us n z => by rw [d] at z; cases z
  have hid : ∀ {b : Addr} {m : Str → Option Value}, s₁.heap.Ns b m → (hidT s₁.heap H).Ns b m := by
    rintro b m ⟨o, es, ep, e, d, r⟩
    exact ⟨o, es, ep, hidT_get e (notD e d), d, r⟩
  have inK : K.In (hidT s₁.heap H) := fun b o e => hidT_get (inH0 b o e) (notK e)
  have mod : Mod K mg (hidT s₁.heap H) := by
    obtain ⟨mc, h1, h2⟩ := noLim0
    exact ⟨inK, hid nsG, ⟨mb, hid hb, isBoot⟩, ⟨mc, hid h1, h2⟩⟩
  have none0 : ∀ b : Addr, b ∉ ([] : List Addr) := fun b z => nomatch z
  have e0 : Env0 P w K mg (hidT s₁.heap H) callerA [] s₁ H := ⟨rfl, mod, fun b o e => of_hidT e, Nat.le_of_eq (hidT_size _ _), trivial, fun b z => absurd z (none0 b), hok, .of_eq hg⟩
  have TB : ∀ p ∈ tabPairs K, GxR.TabB (hidT s₁.heap H) mg p.1 p.2 := fun p hp => by
    obtain ⟨t1, t2, ch⟩ := tb.tab p hp
    have nG : mainGlobals ≠ p.2 := fun z => by
      obtain ⟨o, es, ep, e, hd, _⟩ := nsG
      rw [z, t1] at e
      cases e; cases hd
    refine ⟨?_, ?_, nG⟩
    · obtain ⟨o, us, file, tf, flags, tg, inF, text, tt, e1, r1, r2, r3, rest⟩ := ch
      exact ⟨o, us, file, tf, flags, tg, inF, text, tt, hidT_get e1 (notT e1 (by rw [r2]; intro z; cases z; simp at r3) fun us n z => by rw [r2] at z; cases z), r1, r2, r3, rest⟩
    · obtain ⟨bm, ob, b1, b2, b3, b4, b5, b6⟩ := tb.bm
      refine ⟨bm, ob, b1, b2, fun q => ?_, fun q => ?_, hidT_get b3 (notT b3 (by rw [b6]; intro z; cases z) fun us n z => by rw [b6] at z; cases z), b4, b5, b6⟩
      · obtain ⟨o, es, ep, e, hd, _⟩ := nsG
        rw [q, e] at b3
        cases b3
        rw [hd] at b6
        cases b6
      · rw [q, t1] at b3
        cases b3
        cases b6
  have theInts : ∀ {H : Hp} (l : List Int), Rels ⟨K, mg, []⟩ [] H (l.map D.int) (l.map V.int) := by
    intro H l
    induction l with
    | nil => exact .nil
    | cons i r ih => exact .cons (.int i) ih
  have aT : a ∉ tabsOf K := fun z => by
    have q := (isTab z).1
    rw [ha] at q
    cases q
  have script : Rel ⟨K, mg, []⟩ [] H (.lst (ns.map D.int)) (.ref a) := by
    cases q : K.lookup a with
    | none => exact .lst (.inr ⟨scriptObj vs, by rw [← hH]; exact (if_neg aT).trans (if_pos ⟨rfl, q⟩)⟩) (none0 a) (none0 a) (theInts ns)
    | some o =>
      have e := inH0 a o q
      rw [ha] at e
      cases e
      exact .lstK ⟨_, vs.toArray, _, q, rfl, rfl, rfl, by rw [List.size_toArray, ← lv]; exact hl, by simpa using rv⟩ (theInts ns)
  have sr : SR ⟨K, mg, []⟩ [] H [] := ⟨rfl, List.nodup_nil, fun b z => absurd z (none0 b), fun n b o e => by simp at e, fun P hP => ⟨⟨#[], hTab hP, trivial⟩, none0 P⟩⟩
  obtain ⟨fd, fg, hbind⟩ := fn _ inK (hid nsG) TB
  refine codeAny_mono (fg.go callerA [] s₁ H ⟨[.ref a], []⟩ [.ref a] [.ref a] (fun v _ => v = .bl true) (fun _ _ _ => False) rfl hr e0 (by rw [hp]; exact hbind s₁ (.ref a)) (.cons rfl .nil)
    ⟨[], [], [], [.lst (ns.map D.int)], sr, .one script, by rw [hp]; rfl, by rw [run]; intro v ρ' H' _ _ r; cases r; rfl⟩) fun r s' h => ?_
  cases r with
  | error e =>
    obtain ⟨_, _, _, _, _, _, _, _, _, _, _, _, z⟩ := (show L2.CX P w [] H s₁ (fun _ _ _ => False) e s' from h)
    exact z.elim
  | ok fl => cases fl with
    | ret u =>
      obtain ⟨v, H', os, bare, un, hok', r', rfl⟩ := (show CE [] P w H s₁ (fun v _ => v = .bl true) u s' from h)
      cases r'
      have key : ∀ b o, b ∉ tabsOf K → s₁.heap.get? b = some o → s'.heap.get? b = some o := fun b o nb e => by
        cases q : H b with
        | none => exact un.keep b o e q (none0 b) (none0 b)
        | some u =>
          rcases only q with ⟨hb, _⟩ | ⟨rfl, _, rfl⟩
          · exact absurd hb nb
          · have keep := (hok' _ _ (un.frzs _ _ _ q)).1
            rw [ha] at e
            cases e
            exact keep
      have grown : ∀ b, b ∈ tabsOf K → ∃ more : Array Value, s'.heap.get? b = some { cls := .none, data := .fields more } := fun b hb => by
        obtain ⟨more, z⟩ := un.tbls b #[] (hTab hb)
        exact ⟨_, hok' b _ z⟩
      refine ⟨rfl, ⟨fun b o e => ?_, fun b o e => ?_⟩, os, bare⟩
      · by_cases hb : b ∈ tabsOf K
        · obtain ⟨more, hm⟩ := grown b hb
          obtain ⟨p, hp, rfl⟩ := tabs_pairs.mp hb
          obtain ⟨t1, t2, ch⟩ := tb.tab p hp
          rw [t1] at e
          cases e
          exact .inr (.inl ⟨(ch.tab t1).isCodeTable, rfl, #[], more, rfl, by rw [Array.empty_append]; exact hm⟩)
        · exact .inl (key b o hb e)
      · by_cases hb : b ∈ tabsOf K
        · obtain ⟨more, hm⟩ := grown b hb
          exact ⟨_, hm⟩
        · exact ⟨o, key b o hb e⟩
    | _ => exact False.elim h
end DX

/-! DxP: tables of defs, of constants, of builtins. -/
set_option linter.all false
set_option maxRecDepth 100000
set_option Elab.async false
namespace DX
open PySem PySem.Spec PyProof.Rows L2

structure Ent where
  x : Str
  F : FI
  pats : List (Nat × List Str)
def entOf (T : List Ent) (y : Str) : Option Ent := T.find? fun e => decide (e.x = y)
def fnsOf (T : List Ent) (y : Str) : Option FI := (entOf T y).map (·.F)
def patsOf (T : List Ent) (y : Str) : List (Nat × List Str) := match entOf T y with
  | some e => e.pats
  | none => []
def conOf (T : List (Str × D)) (y : Str) : Option D := (T.find? fun e => decide (e.1 = y)).map (·.2)
def subT (T : List Ent) (is : List Nat) : List Ent := is.filterMap (T[·]?)
section
variable {P : Program} {w : World} {K : PySem.W.Frag} {mg : Str → Option Value} {base : Heap} {k : Nat}
/-- what is held of a def -/
structure Hold (P : Program) (w : World) (K : PySem.W.Frag) (mg : Str → Option Value) (base : Heap) (k : Nat) (e : Ent) : Prop where
  ex : ∃ a gd, mg e.x = some (.ref a) ∧ PySem.W.keepIn K (.ref a) = true ∧ FnG P w K mg base k a gd e.F.ps (spF K mg e.F) ∧ ∀ j ks, (j, ks) ∈ e.pats → Bnd gd e.F.ps j ks (permOf e.F.ps j ks)
def AllG (P : Program) (w : World) (K : PySem.W.Frag) (mg : Str → Option Value) (base : Heap) (k : Nat) (T : List Ent) : Prop := ∀ e ∈ T, Hold P w K mg base k e
def AllC (K : PySem.W.Frag) (mg : Str → Option Value) (T : List (Str × D)) : Prop := ∀ e ∈ T, ∃ v u, mg e.1 = some u ∧ RelV v u ∧ ∀ av ρ H, Rel ⟨K, mg, av⟩ ρ H e.2 v
theorem AllG.nil : AllG P w K mg base k [] := fun e h => nomatch h
theorem AllC.nil : AllC K mg [] := fun e h => nomatch h
theorem AllC.cons {x : Str} {d : D} {T : List (Str × D)} {v : V} {u : Value} (hm : mg x = some u) (r : RelV v u) (h : ∀ av ρ H, Rel ⟨K, mg, av⟩ ρ H d v) (t : AllC K mg T) : AllC K mg ((x, d) :: T) := fun e he => by
  rcases List.mem_cons.mp he with rfl | he
  · exact ⟨v, u, hm, r, h⟩
  · exact t e he
def BndAll (gd : FuncData) (ps : List Str) (l : List (Nat × List Str)) : Prop := ∀ j ks, (j, ks) ∈ l → Bnd gd ps j ks (permOf ps j ks)
theorem BndAll.nil {gd : FuncData} {ps : List Str} : BndAll gd ps [] := fun j ks h => nomatch h
theorem BndAll.cons {gd : FuncData} {ps : List Str} {l : List (Nat × List Str)} {j : Nat} {ks : List Str} (perm : List Nat) (e : permOf ps j ks = perm) (h : Bnd gd ps j ks perm) (t : BndAll gd ps l) : BndAll gd ps ((j, ks) :: l) := fun j' ks' hm => by
  rcases List.mem_cons.mp hm with q | q
  · cases q; rw [e]; exact h
  · exact t j' ks' q
theorem blt_nil : ∀ y ∈ ([] : List Str), mg y = none := fun y h => nomatch h
theorem blt_cons {x : Str} {l : List Str} (h : mg x = none) (t : ∀ y ∈ l, mg y = none) : ∀ y ∈ x :: l, mg y = none := fun y hy => by
  rcases List.mem_cons.mp hy with rfl | hy
  · exact h
  · exact t y hy
theorem Hold.mono {j : Nat} {e : Ent} (h : Hold P w K mg base j e) (le : j ≤ k) : Hold P w K mg base k e := by
  obtain ⟨a, gd, h1, h2, h3, h4⟩ := h
  exact ⟨a, gd, h1, h2, h3.mono le, h4⟩
theorem AllG.sub {T : List Ent} (h : AllG P w K mg base k T) (is : List Nat) : AllG P w K mg base k (subT T is) := fun e he => by
  obtain ⟨i, _, hi⟩ := List.mem_filterMap.mp he
  exact h e (List.mem_of_getElem? hi)
theorem ent_get {T : List Ent} {y : Str} {e : Ent} (h : entOf T y = some e) : e ∈ T ∧ e.x = y :=
  ⟨List.mem_of_find?_eq_some h, of_decide_eq_true (List.find?_some (p := fun e : Ent => decide (e.x = y)) h)⟩
theorem AllG.step {T : List Ent} {C : List (Str × D)} {f : Addr} {x qual : Str} {st : Stmt} {fd : FuncData} {N ps : List Str} {body : SM} {ne fuel n : Nat} {muts : List Str} {pats : List (Nat × List Str)} {xi : ExI} (A : AllG P w K mg base k T) (is : List Nat)
    (fn : Fun K x qual st f fd) (S : FnScope N ps (defScope st))
    (hc : cSs (cSt ne fuel n (ctxOf N (defScope st) (fnsOf (subT T is)) (patsOf (subT T is)) (conOf C) muts xi)) (defBody st) = some body)
    (hm : mg x = some (.ref f)) (hB : BndAll fd ps pats) (hco : AllC K mg C) (hb : ∀ y ∈ blts, mg y = none) (hx : ExOk P w K mg xi) : AllG P w K mg base (k + 1) (⟨x, ⟨ps, runBody N.length body⟩, pats⟩ :: T) := fun e he => by
  rcases List.mem_cons.mp he with rfl | he
  · refine ⟨f, fd, hm, fn.kp, fng_comp (F := ⟨ps, runBody N.length body⟩) fn S rfl hc (fun y G h => ?_) (fun y d h => ?_) hb hx, hB⟩
    · unfold fnsOf at h
      cases z : entOf (subT T is) y with
      | none => simp [z] at h
      | some e =>
        simp [z] at h; subst h
        obtain ⟨h1, h2⟩ := ent_get z
        obtain ⟨a, gd, q1, q2, q3, q4⟩ := (A.sub is e h1).ex
        refine ⟨a, gd, by rw [← h2]; exact q1, q2, q3, fun j ks hp => q4 j ks ?_⟩
        unfold patsOf at hp
        rw [z] at hp
        exact hp
    · unfold conOf at h
      cases z : C.find? fun e => decide (e.1 = y) with
      | none => simp [z] at h
      | some e =>
        simp [z] at h; subst h
        have h2 : e.1 = y := of_decide_eq_true (List.find?_some (p := fun e : Str × D => decide (e.1 = y)) z)
        obtain ⟨v, u, q1, q2, q3⟩ := hco e (List.mem_of_find?_eq_some z)
        exact ⟨v, u, by rw [← h2]; exact q1, q2, q3⟩
  · exact (A e he).mono (Nat.le_succ k)
theorem AllG.stepG {pr : Addr × Addr} {T : List Ent} {C : List (Str × D)} {f : Addr} {x qual : Str} {st : Stmt} {fd : FuncData} {N ps : List Str} {body : SM} {ne fuel n : Nat} {muts : List Str} {pats : List (Nat × List Str)} {xi : ExI} (A : AllG P w K mg base k T) (is : List Nat)
    (fn : Fun K x qual st f fd) (S : FnScope N ps (defScope st))
    (hc : cSs (cSt ne fuel n (ctxOfG x N (defScope st) (fnsOf (subT T is)) (patsOf (subT T is)) (conOf C) muts xi)) (defBody st) = some body)
    (hm : mg x = some (.ref f)) (hB : BndAll fd ps pats) (hco : AllC K mg C) (hb : ∀ y ∈ blts, mg y = none) (hx : ExOk P w K mg xi) (hn : PySem.W.nsIn K mainGlobals x = some (some (.ref f))) (ht : PySem.W.tabIn K x = some pr) (hT : GxR.TabB base mg pr.1 pr.2) : AllG P w K mg base (k + 2) (⟨x, ⟨ps, runBody N.length body⟩, pats⟩ :: T) := fun e he => by
  rcases List.mem_cons.mp he with rfl | he
  · refine ⟨f, fd, hm, fn.kp, fng_compG (F := ⟨ps, runBody N.length body⟩) fn S rfl hc (fun y G h => ?_) (fun y d h => ?_) hb hx hn ht hT, hB⟩
    · unfold fnsOf at h
      cases z : entOf (subT T is) y with
      | none => simp [z] at h
      | some e =>
        simp [z] at h; subst h
        obtain ⟨h1, h2⟩ := ent_get z
        obtain ⟨a, gd, q1, q2, q3, q4⟩ := (A.sub is e h1).ex
        refine ⟨a, gd, by rw [← h2]; exact q1, q2, q3, fun j ks hp => q4 j ks ?_⟩
        unfold patsOf at hp
        rw [z] at hp
        exact hp
    · unfold conOf at h
      cases z : C.find? fun e => decide (e.1 = y) with
      | none => simp [z] at h
      | some e =>
        simp [z] at h; subst h
        have h2 : e.1 = y := of_decide_eq_true (List.find?_some (p := fun e : Str × D => decide (e.1 = y)) z)
        obtain ⟨v, u, q1, q2, q3⟩ := hco e (List.mem_of_find?_eq_some z)
        exact ⟨v, u, by rw [← h2]; exact q1, q2, q3⟩
  · exact (A e he).mono (Nat.le_add_right k 2)
end
/-- a def of which nothing is promised yet (one that calls itself) -/
theorem AllG.none {T : List Ent} {f : Addr} {x qual : Str} {st : Stmt} {fd : FuncData} {ps : List Str} {pats : List (Nat × List Str)} {P : Program} {w : World} {K : PySem.W.Frag} {mg : Str → Option Value} {base : Heap} {k : Nat} (A : AllG P w K mg base k T)
    (fn : Fun K x qual st f fd) (hm : mg x = some (.ref f)) (hB : BndAll fd ps pats) : AllG P w K mg base k (⟨x, ⟨ps, fun _ _ => .no⟩, pats⟩ :: T) := fun e he => by
  rcases List.mem_cons.mp he with rfl | he
  · refine ⟨f, fd, hm, fn.kp, ⟨fun vs H Q E h => ?_, fun _ _ _ _ _ _ _ _ _ _ _ _ _ _ h => ?_⟩, hB⟩
    · obtain ⟨av, ρ, st, ds, s, r, l, _⟩ := h
      rw [← r.length]; exact l
    · obtain ⟨av, ρ, st, ds, s, r, l, q⟩ := h
      exact q.elim
  · exact A e he
/-- the tables of the defs that hold generator expressions -/
def TabFits (q : Program) (K : PySem.W.Frag) : Prop := ∀ x ∈ tbNames, PySem.W.tabIn K x = none ∨ ∃ d, (PyProof.Rows.recsOf q).find? (fun e => e.name == x) = some d ∧ ∀ p, PySem.W.tabIn K x = some p → K.lookup p.2 = none
def TabFit (q : Program) (K : PySem.W.Frag) (x : Str) : Prop := PySem.W.tabIn K x = none ∨ ∃ d, (PyProof.Rows.recsOf q).find? (fun e => e.name == x) = some d ∧ ∀ p, PySem.W.tabIn K x = some p → K.lookup p.2 = none
theorem tabFit_none {q : Program} {K : PySem.W.Frag} {x : Str} (h : PySem.W.tabIn K x = none) : TabFit q K x := .inl h
theorem tabFit_some {q : Program} {K : PySem.W.Frag} {x : Str} {d : DefRec} {c P : Addr} (h1 : (PyProof.Rows.recsOf q).find? (fun e => e.name == x) = some d) (h2 : PySem.W.tabIn K x = some (c, P)) (h3 : K.lookup P = none) : TabFit q K x :=
  .inr ⟨d, h1, fun p e => by rw [h2] at e; cases e; exact h3⟩
def TabAll (q : Program) (K : PySem.W.Frag) : List Str → Prop
  | [] => True
  | [x] => TabFit q K x
  | x :: y :: l => TabFit q K x ∧ TabAll q K (y :: l)
theorem tabAll_of {q : Program} {K : PySem.W.Frag} : ∀ {l : List Str}, TabAll q K l → ∀ x ∈ l, TabFit q K x
  | [], _, _, h => nomatch h
  | [y], t, x, h => by rw [List.mem_singleton.mp h]; exact t
  | y :: z :: l, t, x, h => by
    rcases List.mem_cons.mp h with rfl | h
    · exact t.1
    · exact tabAll_of t.2 x h
theorem tabFits_mk {q : Program} {K : PySem.W.Frag} (h : TabAll q K tbNames) : TabFits q K := tabAll_of h
theorem tabIn_def {K : PySem.W.Frag} {x : Str} {f c P : Addr} {oc c1 : Value} {od d1 : Option Addr} {fd : FuncData} {sl s1 : Array (Option Value)} {us : Array Value} (a : PySem.W.nsIn K mainGlobals x = some (some (.ref f))) (l : K.lookup f = some ⟨oc, od, .func fd, sl⟩) (e : fd.code = .ref c)
    (q : K.lookup c = some ⟨c1, d1, .fields us, s1⟩) (p : us[11]? = some (.ref P)) : PySem.W.tabIn K x = some (c, P) := by
  simp only [PySem.W.tabIn, a, l, e, q, p]
theorem tabFit_none' {q : Program} {K : PySem.W.Frag} {x : Str} (h : PySem.W.nsIn K mainGlobals x = some none) : TabFit q K x := .inl (by simp only [PySem.W.tabIn, h])
theorem tabFit_def {q : Program} {K : PySem.W.Frag} {x : Str} {d : DefRec} {f c P : Addr} {oc c1 : Value} {od d1 : Option Addr} {fd : FuncData} {sl s1 : Array (Option Value)} {us : Array Value} (a : PySem.W.nsIn K mainGlobals x = some (some (.ref f))) (l : K.lookup f = some ⟨oc, od, .func fd, sl⟩) (e : fd.code = .ref c)
    (z : K.lookup c = some ⟨c1, d1, .fields us, s1⟩) (p : us[11]? = some (.ref P)) (h1 : (PyProof.Rows.recsOf q).find? (fun e => e.name == x) = some d) (h3 : K.lookup P = none) : TabFit q K x := tabFit_some h1 (tabIn_def a l e z p) h3
/-- the head's own def -/
theorem tab_run {l : PySem.W.OpenLaw} {n k : Nat} {q : Program} {loose : List Str} {XP : (Str → Option Value) → Heap → Prop} {YP : World → Heap → Prop} {d : DefRec} {K : Params → PySem.W.Frag} {x : Str} {F : FI} {T : List Ent}
    (hn : l.most = some n) (hn2 : n ≤ sizeLine) (hdf : d.params.defaults = []) (hr : Room k callerA) (hY : ∀ (w : World) (h : Heap), YP w h → (K w.params).In h) (hp : F.ps = [x]) 
    (fn : ∀ (w : World) (mg : Str → Option Value) (fa : Addr) (h : Heap), (K w.params).In h → h.Ns mainGlobals mg → mg d.name = some (.ref fa) →
      ∀ base : Heap, (K w.params).In base → base.Ns mainGlobals mg → (∀ p ∈ tabPairs (K w.params), GxR.TabB base mg p.1 p.2) → AllG l.prog w (K w.params) mg base k (⟨d.name, F, [(1, [])]⟩ :: T))
    (hperm : permOf F.ps 1 [] = [0])
    (run : ∀ ns : List Int, ns.length ≤ n → ∃ st', F.run [.lst (ns.map D.int)] [] = .ok (.bl true) st') (tabs : ∀ w : World, TabFits q (K w.params)) : PySem.W.WalkO q loose XP YP l.row.toRowW d [] (fun f vs => PySem.call f vs) := by
  apply Att.attach_call hn hdf
  intro w s₀ s₁ mg mb fa o pm cd doc a vs ns G Y ho hd hcd hmg hobj hints hlen hg
  have inK := hY w _ Y
  obtain ⟨st', r⟩ := run ns hlen
  refine law_run inK G.T.g G.T.b G.T.builtins G.T.nolimit hg ⟨fun p hp => ?_, G.T.bmain⟩ hobj hints (Nat.le_trans hlen hn2) hr hp (fun base hK hN hTB => ?_) r
  · obtain ⟨x, hx, e⟩ := List.mem_filterMap.mp hp
    rcases tabs w x hx with z | ⟨d, z1, z2⟩
    · rw [z] at e; cases e
    · obtain ⟨c, P1⟩ := p
      obtain ⟨t1, t2⟩ := PySem.W.tab_of G.T inK z1 e
      exact ⟨t2, z2 _ e, t1⟩
  have A := fn w mg fa _ inK G.T.g hmg base hK hN hTB
  obtain ⟨b, gd, q1, q2, q3, q4⟩ := (A _ List.mem_cons_self).ex
  have hmg' : mg d.name = some (.ref fa) := hmg
  rw [hmg'] at q1
  cases q1
  refine ⟨gd, q3, fun s u => ?_⟩
  have z := q4 1 [] List.mem_cons_self s [u] [] rfl rfl
  rw [show permOf F.ps 1 [] = [0] from hperm, hp] at z
  exact z
end DX

/-! DxQ: what runs come to; the laws' own helpers. -/
set_option linter.all false
set_option maxRecDepth 100000
set_option Elab.async false
namespace DX
open PySem PySem.Spec PyProof.Rows L2

/-! ### evaluation, step by step -/
section
variable {α β : Type} {st : Sto} {e : Sl}
@[simp] theorem bind_ok (a : α) (f : α → Sto → R β) : (R.ok a st).bind f = f a st := rfl
@[simp] theorem bind_no (f : α → Sto → R β) : (R.no : R α).bind f = .no := rfl
@[simp] theorem bind_exc (c : Str) (fs : List (Str × D)) (f : α → Sto → R β) : (R.exc c fs st : R α).bind f = .exc c fs st := rfl
@[simp] theorem s_ok (a : α) (f : α → Sto → RS) : (R.ok a st).s e f = f a st := rfl
@[simp] theorem s_no (f : α → Sto → RS) : (R.no : R α).s e f = .no := rfl
@[simp] theorem of_some (a : α) : R.of (some a) st = .ok a st := rfl
@[simp] theorem seq_nx (f : Sl → Sto → RS) : (RS.nx e st).seq f = f e st := rfl
@[simp] theorem seq_rt (d : D) (f : Sl → Sto → RS) : (RS.rt d st).seq f = .rt d st := rfl
@[simp] theorem seq_bk (f : Sl → Sto → RS) : (RS.bk e st).seq f = .bk e st := rfl
@[simp] theorem seq_ct (f : Sl → Sto → RS) : (RS.ct e st).seq f = .ct e st := rfl
@[simp] theorem mC_ev (d : D) : mC d e st = .ok d st := rfl
theorem mVar_ev {i : Nat} {d : D} (h : e[i]? = some (some d)) : mVar i e st = .ok d st := by unfold mVar; rw [h]
@[simp] theorem mL_nil : mL [] e st = .ok [] st := rfl
@[simp] theorem mL_cons (m : EM) (ms : List EM) : mL (m :: ms) e st = (m e st).bind fun d st1 => (mL ms e st1).bind fun ds st2 => .ok (d :: ds) st2 := rfl
@[simp] theorem sNx_ev : sNx e st = .nx e st := rfl
@[simp] theorem sSeq_ev (a b : SM) : sSeq a b e st = (a e st).seq b := rfl
@[simp] theorem sRet_ev (a : EM) : sRet a e st = (a e st).s e fun d st1 => .rt d st1 := rfl
@[simp] theorem sExpr_ev (a : EM) : sExpr a e st = (a e st).s e fun _ st1 => .nx e st1 := rfl
@[simp] theorem sIf_ev (c : TM) (a b : SM) : sIf c a b e st = (c e st).s e fun k st1 => if k then a e st1 else b e st1 := rfl
@[simp] theorem sAsg_ev (a : EM) (i : Nat) : sAsg a (gmName i) e st = (a e st).s e fun d st1 => .nx (e.set i (some d)) st1 := rfl
@[simp] theorem mOp_ev (f : D → D → Sto → R D) (a b : EM) : mOp f a b e st = (a e st).bind fun x st1 => (b e st1).bind fun y st2 => f x y st2 := rfl
@[simp] theorem mCall_ev (f : List D → Sto → R D) (ms : List EM) : mCall f ms e st = (mL ms e st).bind f := rfl
@[simp] theorem mLst_nil : mLst false [] e st = .ok (.lst []) st := rfl
@[simp] theorem mLst_nilT : mLst true [] e st = .ok (.loc st.length) (st ++ [.lst []]) := rfl
@[simp] theorem mTst_ev (a : EM) : mTst a e st = (a e st).bind fun d st1 => match d with
  | .bl k => .ok k st1
  | _ => .no := rfl
@[simp] theorem mIf_ev (c : TM) (a b : EM) : mIf c a b e st = (c e st).bind fun k st1 => if k then a e st1 else b e st1 := rfl
@[simp] theorem tmAnd_ev (a b : TM) : tmAnd a b e st = (a e st).bind fun k st1 => if k then b e st1 else .ok false st1 := rfl
@[simp] theorem tmOr_ev (a b : TM) : tmOr a b e st = (a e st).bind fun k st1 => if k then .ok true st1 else b e st1 := rfl
@[simp] theorem tmNot_ev (a : TM) : tmNot a e st = (a e st).bind fun k st1 => .ok (!k) st1 := rfl
@[simp] theorem cmp_lt (i j : Int) : cmpD .Lt (.int i) (.int j) st = .ok (.bl (decide (i < j))) st := rfl
@[simp] theorem cmp_le (i j : Int) : cmpD .LtE (.int i) (.int j) st = .ok (.bl (decide (i ≤ j))) st := rfl
@[simp] theorem cmp_gt (i j : Int) : cmpD .Gt (.int i) (.int j) st = .ok (.bl (decide (j < i))) st := rfl
@[simp] theorem cmp_ge (i j : Int) : cmpD .GtE (.int i) (.int j) st = .ok (.bl (decide (j ≤ i))) st := rfl
@[simp] theorem add_int (mt : Bool) (i j : Int) : addD mt (.int i) (.int j) st = .ok (.int (i + j)) st := rfl
@[simp] theorem sub_int (i j : Int) : arD .Sub (.int i) (.int j) st = .ok (.int (i - j)) st := rfl
theorem mul_int {i j : Int} (h : (-(2 ^ 64) < i ∧ i < 2 ^ 64) ∨ (-(2 ^ 64) < j ∧ j < 2 ^ 64)) : mulD (.int i) (.int j) st = .ok (.int (i * j)) st := if_pos h
theorem mod_int {i j : Int} (h : 0 < j) : arD .Mod (.int i) (.int j) st = .ok (.int (i % j)) st := by
  show (if j ≠ 0 then R.ok (D.int (i.fmod j)) st else .no) = _
  rw [if_pos (by omega), Int.fmod_eq_emod_of_nonneg _ (by omega)]
theorem div_int {i j : Int} (h : 0 < j) (h2 : j < 1073741824) : arD .FloorDiv (.int i) (.int j) st = .ok (.int (i / j)) st := by
  show (if j ≠ 0 ∧ j.natAbs < 1073741824 then R.ok (D.int (i.fdiv j)) st else .no) = _
  rw [if_pos (by omega), Int.fdiv_eq_ediv_of_nonneg _ (by omega)]
@[simp] theorem int_int (i : Int) : intD [.int i] st = .ok (.int i) st := rfl
@[simp] theorem int_bl (k : Bool) : intD [.bl k] st = .ok (.int (if k then 1 else 0)) st := rfl
@[simp] theorem abs_int (i : Int) : absD [.int i] st = .ok (.int (if i < 0 then -i else i)) st := rfl
@[simp] theorem cmp_isnon (d : D) : cmpD .Is d .non st = .ok (.bl (isNonB d)) st := rfl
@[simp] theorem cmp_isnotnon (d : D) : cmpD .IsNot d .non st = .ok (.bl (!isNonB d)) st := rfl
end

/-! ### loops over what does not change -/
/-- through a list of values -/
def walk (body : D → SM) : List D → SM
  | [], e, st => .nx e st
  | x :: xs, e, st => match body x e st with
    | .nx e' st' => walk body xs e' st'
    | .ct e' st' => walk body xs e' st'
    | .bk e' st' => .nx e' st'
    | z => z
theorem forL_walk {it : Itr} {xs : List D} (hl : ∀ st, it.len st = some xs.length) (ha : ∀ st i, it.at st i = xs[i]?) (body : D → SM) : ∀ (r : Nat) (e : Sl) (st : Sto), r ≤ xs.length → forL it xs.length body r e st = walk body (xs.drop (xs.length - r)) e st
  | 0, e, st, _ => by
    unfold forL
    rw [if_pos (hl st), Nat.sub_zero, List.drop_length]
    rfl
  | r + 1, e, st, h => by
    have hi : xs.length - (r + 1) < xs.length := by omega
    unfold forL
    rw [if_pos (hl st), ha st, List.getElem?_eq_getElem hi, List.drop_eq_getElem_cons hi]
    have e1 : xs.length - (r + 1) + 1 = xs.length - r := by omega
    rw [e1]
    show (match body xs[xs.length - (r + 1)] e st with
      | .nx e' st' => forL it xs.length body r e' st'
      | .ct e' st' => forL it xs.length body r e' st'
      | .bk e' st' => .nx e' st'
      | x => x) = match body xs[xs.length - (r + 1)] e st with
      | .nx e' st' => walk body (xs.drop (xs.length - r)) e' st'
      | .ct e' st' => walk body (xs.drop (xs.length - r)) e' st'
      | .bk e' st' => .nx e' st'
      | z => z
    cases body xs[xs.length - (r + 1)] e st with
    | nx e' st' => exact forL_walk hl ha body r e' st' (by omega)
    | ct e' st' => exact forL_walk hl ha body r e' st' (by omega)
    | _ => rfl
def asg (g : GM) (body : SM) : D → SM := fun d e st => match g d e with
  | some e' => body e' st
  | none => .no
theorem sFor_walk {im : IM} {g : GM} {body : SM} {it : Itr} {xs : List D} {e : Sl} {st st1 : Sto} (h : im e st = .ok it st1) (hl : ∀ st, it.len st = some xs.length) (ha : ∀ st i, it.at st i = xs[i]?) :
    sFor im g body e st = walk (asg g body) xs e st1 := by
  unfold sFor
  rw [h]
  show (match it.len st1 with
    | some n => forL it n (asg g body) n e st1
    | none => .no) = _
  rw [hl st1]
  show forL it xs.length (asg g body) xs.length e st1 = _
  rw [forL_walk hl ha _ _ _ _ (Nat.le_refl _), Nat.sub_self, List.drop_zero]
def ofSeq : D → Option (List D)
  | .lst xs => some xs
  | .tup xs => some xs
  | _ => none
theorem sFor_seq {m : EM} {g : GM} {body : SM} {d : D} {xs : List D} {e : Sl} {st st1 : Sto} (h : m e st = .ok d st1) (hd : ofSeq d = some xs) : sFor (imSeq m) g body e st = walk (asg g body) xs e st1 := by
  cases d with
  | lst ys => cases hd; exact sFor_walk (it := .seq (.lst xs)) (by unfold imSeq; rw [h]; rfl) (fun _ => rfl) (fun _ _ => rfl)
  | tup ys => cases hd; exact sFor_walk (it := .seq (.tup xs)) (by unfold imSeq; rw [h]; rfl) (fun _ => rfl) (fun _ _ => rfl)
  | _ => cases hd
/-- through what may change: an invariant -/
theorem forL_inv {it : Itr} {n : Nat} {body : D → SM} (I : Nat → Sl → Sto → Prop)
    (step : ∀ i e st, i < n → I i e st → it.len st = some n ∧ ∃ d e' st', it.at st i = some d ∧ body d e st = .nx e' st' ∧ I (i + 1) e' st') (last : ∀ e st, I n e st → it.len st = some n) :
    ∀ (r : Nat) (e : Sl) (st : Sto), r ≤ n → I (n - r) e st → ∃ e' st', forL it n body r e st = .nx e' st' ∧ I n e' st'
  | 0, e, st, _, h => by
    rw [Nat.sub_zero] at h
    exact ⟨e, st, by unfold forL; rw [if_pos (last e st h)], h⟩
  | r + 1, e, st, hr, h => by
    obtain ⟨h1, d, e', st', h2, h3, h4⟩ := step _ e st (by omega) h
    have e1 : n - (r + 1) + 1 = n - r := by omega
    rw [e1] at h4
    obtain ⟨e2, st2, h5, h6⟩ := forL_inv I step last r e' st' (by omega) h4
    refine ⟨e2, st2, ?_, h6⟩
    unfold forL
    rw [if_pos h1, h2]
    show (match body d e st with
      | .nx e' st' => forL it n body r e' st'
      | .ct e' st' => forL it n body r e' st'
      | .bk e' st' => .nx e' st'
      | x => x) = _
    rw [h3]
    exact h5
/-! ### comprehensions -/
/-- values one by one -/
def mapW (g : GM) (c : TM) (f : EM) (e : Sl) : List D → List D → Sto → R (List D)
  | [], acc, st => .ok acc st
  | x :: xs, acc, st => match g x e with
    | some e' => match c e' st with
      | .ok true st1 => match f e' st1 with
        | .ok y st2 => if acc.length < sizeLine then mapW g c f e xs (acc ++ [y]) st2 else .no
        | _ => .no
      | .ok false st1 => mapW g c f e xs acc st1
      | _ => .no
    | none => .no
theorem compL_walk {it : Itr} {xs : List D} (hl : ∀ st, it.len st = some xs.length) (ha : ∀ st i, it.at st i = xs[i]?) (g : GM) (c : TM) (f : EM) (e : Sl) : ∀ (r : Nat) (acc : List D) (st : Sto), r ≤ xs.length → compL it xs.length g c f r acc e st = mapW g c f e (xs.drop (xs.length - r)) acc st
  | 0, acc, st, _ => by
    unfold compL
    rw [if_pos (hl st), Nat.sub_zero, List.drop_length]
    rfl
  | r + 1, acc, st, h => by
    have hi : xs.length - (r + 1) < xs.length := by omega
    have e1 : xs.length - (r + 1) + 1 = xs.length - r := by omega
    unfold compL
    rw [if_pos (hl st), ha st, List.getElem?_eq_getElem hi, List.drop_eq_getElem_cons hi, e1]
    unfold mapW
    dsimp only
    cases g xs[xs.length - (r + 1)] e with
    | none => rfl
    | some e' =>
      dsimp only
      cases c e' st with
      | ok k st1 =>
        cases k with
        | true =>
          dsimp only
          cases f e' st1 with
          | ok y st2 =>
            dsimp only
            split
            · exact compL_walk hl ha g c f e r _ st2 (by omega)
            · rfl
          | _ => rfl
        | false => exact compL_walk hl ha g c f e r _ st1 (by omega)
      | _ => rfl
theorem mLc_walk {mt : Bool} {im : IM} {vs : List Nat} {g : GM} {c : TM} {f : EM} {it : Itr} {xs : List D} {e : Sl} {st st1 : Sto} (h : im e st = .ok it st1) (hl : ∀ st, it.len st = some xs.length) (ha : ∀ st i, it.at st i = xs[i]?) :
    mLc mt im vs g c f e st = (mapW g c f (wipeE e vs) xs [] st1).bind (newC mt) := by
  unfold mLc
  rw [h]
  show (match it.len st1 with
    | some n => (compL it n g c f n [] (wipeE e vs) st1).bind (newC mt)
    | none => .no) = _
  rw [hl st1]
  show (compL it xs.length g c f xs.length [] (wipeE e vs) st1).bind (newC mt) = _
  rw [compL_walk hl ha _ _ _ _ _ _ _ (Nat.le_refl _), Nat.sub_self, List.drop_zero]
theorem mLc_seq {mt : Bool} {m : EM} {vs : List Nat} {g : GM} {c : TM} {f : EM} {d : D} {xs : List D} {e : Sl} {st st1 : Sto} (h : m e st = .ok d st1) (hd : ofSeq d = some xs) :
    mLc mt (imSeq m) vs g c f e st = (mapW g c f (wipeE e vs) xs [] st1).bind (newC mt) := by
  cases d with
  | lst ys => cases hd; exact mLc_walk (it := .seq (.lst xs)) (by unfold imSeq; rw [h]; rfl) (fun _ => rfl) (fun _ _ => rfl)
  | tup ys => cases hd; exact mLc_walk (it := .seq (.tup xs)) (by unfold imSeq; rw [h]; rfl) (fun _ => rfl) (fun _ _ => rfl)
  | _ => cases hd
/-- each value gives one; the store may change -/
theorem mapW_all {g : GM} {c : TM} {f : EM} {e : Sl} (I : Sto → Prop) (P : D → Prop) : ∀ (xs acc : List D) (st : Sto), (∀ x ∈ xs, ∀ st, I st → ∃ e' y st', g x e = some e' ∧ c e' st = .ok true st ∧ f e' st = .ok y st' ∧ I st' ∧ P y) →
    acc.length + xs.length ≤ sizeLine → I st → (∀ y ∈ acc, P y) → ∃ ys st', mapW g c f e xs acc st = .ok ys st' ∧ I st' ∧ (∀ y ∈ ys, P y) ∧ ys.length = acc.length + xs.length
  | [], acc, st, _, _, hI, hP => ⟨acc, st, rfl, hI, hP, rfl⟩
  | x :: xs, acc, st, step, hl, hI, hP => by
    rw [List.length_cons] at hl
    obtain ⟨e', y, st', h1, h2, h3, h4, h5⟩ := step x List.mem_cons_self st hI
    obtain ⟨ys, st2, k1, k2, k3, k4⟩ := mapW_all (e := e) I P xs (acc ++ [y]) st' (fun x hx => step x (List.mem_cons_of_mem _ hx)) (by rw [List.length_append, List.length_singleton]; omega) h4
      (fun z hz => (List.mem_append.mp hz).elim (hP z) fun q => by rw [List.mem_singleton.mp q]; exact h5)
    refine ⟨ys, st2, ?_, k2, k3, by rw [k4, List.length_append, List.length_singleton, List.length_cons]; omega⟩
    unfold mapW
    rw [h1]
    dsimp only
    rw [h2]
    dsimp only
    rw [h3]
    dsimp only
    rw [if_pos (by omega)]
    exact k1
/-- a function's values, those of some -/
theorem mapW_fun {g : GM} {c : TM} {f : EM} {e : Sl} {st : Sto} (p : D → Bool) (F : D → D) : ∀ (xs acc : List D), (∀ x ∈ xs, ∃ e', g x e = some e' ∧ c e' st = .ok (p x) st ∧ (p x = true → f e' st = .ok (F x) st)) →
    acc.length + xs.length ≤ sizeLine → mapW g c f e xs acc st = .ok (acc ++ (xs.filter p).map F) st
  | [], acc, _, _ => by rw [List.filter_nil, List.map_nil, List.append_nil]; rfl
  | x :: xs, acc, step, hl => by
    rw [List.length_cons] at hl
    obtain ⟨e', h1, h2, h3⟩ := step x List.mem_cons_self
    have more := fun y hy => step y (List.mem_cons_of_mem x hy)
    unfold mapW
    rw [h1]
    dsimp only
    rw [h2]
    cases hp : p x with
    | true =>
      dsimp only
      rw [h3 hp]
      dsimp only
      rw [if_pos (by omega), mapW_fun p F xs (acc ++ [F x]) more (by rw [List.length_append, List.length_singleton]; omega), List.filter_cons_of_pos hp, List.map_cons, List.append_assoc]
      rfl
    | false =>
      dsimp only
      rw [mapW_fun p F xs acc more (by omega), List.filter_cons_of_neg (by rw [hp]; decide)]

/-! ### equality of data -/
theorem pds_ints : ∀ ns : List Int, pds (ns.map D.int) = some (ns.map PyData.int)
  | [] => rfl
  | n :: ns => by
    show (match pd (.int n), pds (ns.map D.int) with
      | some d, some ds => some (d :: ds)
      | _, _ => none) = _
    rw [pds_ints ns]
    rfl
theorem pd_ints (ns : List Int) : pd (.lst (ns.map D.int)) = some (.list (ns.map PyData.int)) := by
  unfold pd
  rw [pds_ints]
theorem can_ints : ∀ ns : List Int, PyData.canLayAll0 (ns.map PyData.int) = true
  | [] => rfl
  | n :: ns => by
    show (PyData.canLay0 (.int n) && PyData.canLayAll0 (ns.map PyData.int)) = true
    rw [can_ints ns]
    rfl
theorem depth_ints : ∀ ns : List Int, PyData.depthAll (ns.map PyData.int) ≤ 1
  | [] => by decide
  | n :: ns => by
    show max (PyData.depth (.int n)) (PyData.depthAll (ns.map PyData.int)) ≤ 1
    have := depth_ints ns
    have h : PyData.depth (.int n) ≤ 1 := by unfold PyData.depth; omega
    omega
theorem lay_ints (ns : List Int) : lay (.list (ns.map PyData.int)) = true := by
  unfold lay
  rw [Bool.and_eq_true, decide_eq_true_eq]
  refine ⟨?_, ?_⟩
  · unfold PyData.canLay0; exact can_ints ns
  · unfold PyData.depth; have := depth_ints ns; omega
theorem lay_nil : lay (.list []) = true := by decide +kernel
theorem ne_nil {st : Sto} {m : Nat} {xs : List D} {ps : List PyData} (h : st[m]? = some (.lst xs)) (hp : pds xs = some ps) (hc : lay (.list ps) = true) : cmpD .NotEq (.loc m) (.lst []) st = .ok (.bl (!xs.isEmpty)) st := by
  have v1 : view st (.loc m) = some (.list ps) := by
    simp only [view, flat, h]
    unfold pd
    rw [hp]
  have v2 : view st (.lst []) = some (.list []) := rfl
  have e : eqB (.loc m) (.lst []) st = some xs.isEmpty := by
    unfold eqB
    rw [v1, v2]
    show (if (lay (.list ps) && lay (.list [])) = true then some (PyData.eqv (.list ps) (.list [])) else emQ (.list ps) (.list [])) = _
    rw [hc, lay_nil]
    show some (PyData.eqv (.list ps) (.list [])) = _
    cases xs with
    | nil => cases hp; rfl
    | cons x xs =>
      cases ps with
      | nil =>
        exfalso
        unfold pds at hp
        split at hp <;> cases hp
      | cons p ps => rfl
  show R.of ((Option.map (!·) (eqB (.loc m) (.lst []) st)).map D.bl) st = _
  rw [e]
  rfl

/-! ### the laws' bags -/
def B_bag (c0 : Int) : SM :=
  sSeq (sPar 1 2 (mLc false (imSeq (mSlice false (mVar 0) pmNone (pmSome (mC (.int 63))))) [3] (Tg.name 3).m (fun _ st => .ok true st) (mOp (addD false) (mOp mulD (mC (.int 2)) (mCall absD [mVar 3])) (mCall intD [mOp (cmpD .Lt) (mVar 3) (mC (.int 0))]))) (mOp (addD false) (mC (.int c0)) (mCall lenD [mSlice false (mVar 0) pmNone (pmSome (mC (.int 63)))])))
  (sSeq (sFor (imSeq (mVar 1)) (Tg.name 3).m (sAsg (mOp (arD .Mod) (mCall intD [mOp (addD false) (mOp (addD false) (mOp mulD (mVar 2) (mC (.int 48271))) (mVar 3)) (mC (.int 13))]) (mC (.int 4294967291))) (gmName 2)))
  (sRet (mDict [(mC (.str "far"), mLc true (imSeq (mVar 1)) [3] (Tg.name 3).m (mTst (mOp (cmpD .GtE) (mVar 3) (mOp (arD .Pow) (mC (.int 10)) (mC (.int 15))))) (mVar 3)), (mC (.str "stirred"), mVar 2), (mC (.str "count"), mC (.int 0))])))
def B_draw : SM :=
  sSeq (sIf (mTst (mOp (cmpD .Lt) (mVar 1) (mC (.int 2)))) (sRet (mC (.int 0))) (sNx))
  (sSeq (sIf (mTst (mOp (cmpD .NotEq) (mDGet (mVar 0) (mC (.str "far"))) (mLst false []))) (sSeq (sAsg (mMeth popAtD (mDGet (mVar 0) (mC (.str "far"))) [mC (.int 0)]) (gmName 2))
  (sSeq (sIf (mTst (mOp (cmpD .GtE) (mVar 2) (mVar 1))) (sExpr (mMeth insertD (mDGet (mVar 0) (mC (.str "far"))) [mC (.int 0), mOp (arD .FloorDiv) (mVar 2) (mVar 1)])) (sNx))
  (sRet (mOp (arD .Mod) (mCall intD [mVar 2]) (mVar 1))))) (sNx))
  (sSeq (sDPutM (mVar 0) (mC (.str "count")) (mOp (addD true) (mDGet (mVar 0) (mC (.str "count"))) (mC (.int 1))))
  (sSeq (sAsg (mOp (arD .Mod) (mCall intD [mOp (addD false) (mDGet (mVar 0) (mC (.str "stirred"))) (mOp mulD (mC (.int 2654435761)) (mDGet (mVar 0) (mC (.str "count"))))]) (mC (.int 4294967279))) (gmName 3))
  (sSeq (sAsg (mOp (arD .Mod) (mCall intD [mOp (addD false) (mOp (addD false) (mOp mulD (mVar 3) (mVar 3)) (mOp mulD (mC (.int 40503)) (mDGet (mVar 0) (mC (.str "count"))))) (mC (.int 19))]) (mC (.int 4294967231))) (gmName 3))
  (sSeq (sAsg (mOp (arD .Mod) (mCall intD [mOp (addD false) (mOp mulD (mVar 3) (mVar 3)) (mDGet (mVar 0) (mC (.str "stirred")))]) (mC (.int 4294967197))) (gmName 3))
  (sRet (mOp (arD .Mod) (mCall intD [mOp (arD .FloorDiv) (mVar 3) (mC (.int 256))]) (mVar 1))))))))
def bagD (m : Nat) (s c : Int) : O := .dct [(.inr "far", .loc m), (.inr "stirred", .int s), (.inr "count", .int c)]
/-- a bag at n, its far ones at m -/
structure Bag (st : Sto) (n m : Nat) : Prop where
  ne : m ≠ n
  ex : ∃ (far : List Int) (s c : Int), st[n]? = some (bagD m s c) ∧ st[m]? = some (.lst (far.map D.int)) ∧ far.length ≤ 63
/-- nothing else has changed -/
structure Only (st st' : Sto) (n m : Nat) : Prop where
  len : st.length ≤ st'.length
  keep : ∀ i, i ≠ n → i ≠ m → i < st.length → st'[i]? = st[i]?
theorem Only.refl {st : Sto} {n m : Nat} : Only st st n m := ⟨Nat.le_refl _, fun _ _ _ _ => rfl⟩
theorem Only.trans {a b c : Sto} {n m : Nat} (h : Only a b n m) (k : Only b c n m) : Only a c n m :=
  ⟨Nat.le_trans h.len k.len, fun i h1 h2 h3 => (k.keep i h1 h2 (Nat.lt_of_lt_of_le h3 h.len)).trans (h.keep i h1 h2 h3)⟩
theorem Only.set {st : Sto} {n m i : Nat} {o : O} (h : i = n ∨ i = m) : Only st (st.set i o) n m :=
  ⟨by rw [List.length_set]; exact Nat.le_refl _, fun j h1 h2 _ => List.getElem?_set_ne (by rcases h with rfl | rfl; exact fun z => h1 z.symm; exact fun z => h2 z.symm)⟩
theorem dget_dct {st : Sto} {n : Nat} {kvs : List (Key × D)} {x : Str} {d : D} (h : st[n]? = some (.dct kvs)) (hv : valD kvs (.inr x) = some d) : dgetD (.loc n) (.str x) st = .ok d st := by
  simp only [dgetD, dctOf, h, keyOf, hv, of_some]
theorem ev_dget {x : Str} {i n : Nat} {kvs : List (Key × D)} {d : D} {e : Sl} {st : Sto} (h0 : e[i]? = some (some (.loc n))) (h : st[n]? = some (.dct kvs)) (hv : valD kvs (.inr x) = some d) : mDGet (mVar i) (mC (.str x)) e st = .ok d st := by
  unfold mDGet
  rw [mVar_ev h0]
  exact dget_dct h hv
theorem far_of {m : Nat} {s c : Int} : valD [(.inr "far", .loc m), (.inr "stirred", .int s), (.inr "count", .int c)] (.inr "far") = some (.loc m) := rfl
theorem stirred_of {m : Nat} {s c : Int} : valD [(.inr "far", .loc m), (.inr "stirred", .int s), (.inr "count", .int c)] (.inr "stirred") = some (.int s) := rfl
theorem count_of {m : Nat} {s c : Int} : valD [(.inr "far", .loc m), (.inr "stirred", .int s), (.inr "count", .int c)] (.inr "count") = some (.int c) := rfl
theorem put_count {m : Nat} {s c d : Int} : putD [(.inr "far", .loc m), (.inr "stirred", .int s), (.inr "count", .int c)] (.inr "count") (.int d) = [(.inr "far", .loc m), (.inr "stirred", .int s), (.inr "count", .int d)] := rfl
theorem popAt0 {n : Nat} {x : D} {xs : List D} {st : Sto} : popAtD n (x :: xs) [.int 0] st = .ok x (st.set n (.lst xs)) := by
  have h : seqIndex? 0 (x :: xs).length = some 0 := by
    unfold seqIndex?
    simp
  simp only [popAtD, h]
  rfl
theorem insert0 {n : Nat} {y : D} {xs : List D} {st : Sto} (h : xs.length < sizeLine) : insertD n xs [.int 0, y] st = .ok .non (st.set n (.lst (y :: xs))) := by
  simp [insertD, h]
theorem ev_meth {f : Nat → List D → List D → Sto → R D} {o : EM} {ms : List EM} {e : Sl} {st st2 : Sto} {n : Nat} {xs ys ds : List D} (h : o e st = .ok (.loc n) st) (h1 : st[n]? = some (.lst ys)) (h2 : mL ms e st = .ok ds st2) (h3 : st2[n]? = some (.lst xs)) : mMeth f o ms e st = f n xs ds st2 := by
  simp only [mMeth, h, bind_ok, lstOf, h1, h2, h3]
theorem draw_run {st : Sto} {n m : Nat} {many : Int} (hB : Bag st n m) (hm : many < 1073741824) :
    ∃ r st', runBody 4 B_draw [.loc n, .int many] st = .ok (.int r) st' ∧ Bag st' n m ∧ Only st st' n m ∧ st'.length = st.length ∧ (many < 2 → r = 0) ∧ (2 ≤ many → 0 ≤ r ∧ r < many) := by
  obtain ⟨hne, far, s, c, hn, hmm, hl⟩ := hB
  have nl : n < st.length := (List.getElem?_eq_some_iff.mp hn).1
  have ml : m < st.length := (List.getElem?_eq_some_iff.mp hmm).1
  by_cases h2 : many < 2
  · refine ⟨0, st, ?_, ⟨hne, far, s, c, hn, hmm, hl⟩, .refl, rfl, fun _ => rfl, fun h => by omega⟩
    unfold runBody B_draw
    simp [mVar, h2]
  · have h2' : 2 ≤ many := by omega
    have hp : (0 : Int) < many := by omega
    have nz := ne_nil hmm (pds_ints far) (lay_ints far)
    have q1 : ∀ e : Sl, e[0]? = some (some (.loc n)) → mDGet (mVar 0) (mC (.str "far")) e st = .ok (.loc m) st := fun e h => ev_dget h hn far_of
    cases far with
    | cons f far =>
      have hl' : far.length < sizeLine := Nat.lt_of_lt_of_le (by rw [List.length_cons] at hl; omega) (show 63 ≤ sizeLine by decide)
      have hl'' : (far.map D.int).length < sizeLine := by rw [List.length_map]; exact hl'
      have p1 : ∀ e : Sl, e[0]? = some (some (.loc n)) → mMeth popAtD (mDGet (mVar 0) (mC (.str "far"))) [mC (.int 0)] e st = .ok (.int f) (st.set m (.lst (far.map D.int))) := fun e h => by
        rw [ev_meth (q1 e h) hmm (by rfl) hmm, List.map_cons, popAt0]
      have hn1 : (st.set m (.lst (far.map D.int)))[n]? = some (bagD m s c) := by rw [List.getElem?_set_ne hne]; exact hn
      have hm1 : (st.set m (.lst (far.map D.int)))[m]? = some (.lst (far.map D.int)) := List.getElem?_set_self ml
      have q2 : ∀ e : Sl, e[0]? = some (some (.loc n)) → mDGet (mVar 0) (mC (.str "far")) e (st.set m (.lst (far.map D.int))) = .ok (.loc m) (st.set m (.lst (far.map D.int))) := fun e h => ev_dget h hn1 far_of
      by_cases hf : many ≤ f
      · refine ⟨f % many, (st.set m (.lst (far.map D.int))).set m (.lst ((f / many :: far).map D.int)), ?_, ⟨hne, f / many :: far, s, c, ?_, ?_, hl⟩, (Only.set (.inr rfl)).trans (Only.set (.inr rfl)), by simp, fun h => by omega, fun _ => ⟨Int.emod_nonneg _ (by omega), Int.emod_lt_of_pos _ hp⟩⟩
        · have p2 : ∀ e : Sl, e[0]? = some (some (.loc n)) → e[1]? = some (some (.int many)) → e[2]? = some (some (.int f)) → mMeth insertD (mDGet (mVar 0) (mC (.str "far"))) [mC (.int 0), mOp (arD .FloorDiv) (mVar 2) (mVar 1)] e (st.set m (.lst (far.map D.int))) = .ok .non ((st.set m (.lst (far.map D.int))).set m (.lst ((f / many :: far).map D.int))) := fun e h0 h1 h2 => by
            rw [ev_meth (ds := [.int 0, .int (f / many)]) (q2 e h0) hm1 (by simp only [mL_cons, mL_nil, mC_ev, bind_ok, mOp_ev, mVar_ev h1, mVar_ev h2, div_int hp hm]) hm1, insert0 hl'', List.map_cons]
          unfold runBody B_draw
          simp [mVar, h2, q1, nz, p1, hf, p2, mod_int hp]
        · rw [List.getElem?_set_ne hne]; exact hn1
        · rw [List.getElem?_set_self (by rw [List.length_set]; exact ml)]
      · refine ⟨f % many, st.set m (.lst (far.map D.int)), ?_, ⟨hne, far, s, c, hn1, hm1, by rw [List.length_cons] at hl; omega⟩, Only.set (.inr rfl), by simp, fun h => by omega, fun _ => ⟨Int.emod_nonneg _ (by omega), Int.emod_lt_of_pos _ hp⟩⟩
        unfold runBody B_draw
        simp [mVar, h2, q1, nz, p1, hf, mod_int hp]
    | nil =>
      have st1 : ∃ st1, st1 = st.set n (bagD m s (c + 1)) := ⟨_, rfl⟩
      obtain ⟨st1, e1⟩ := st1
      have hn1 : st1[n]? = some (bagD m s (c + 1)) := by rw [e1]; exact List.getElem?_set_self nl
      have hm1 : st1[m]? = some (.lst []) := by rw [e1, List.getElem?_set_ne (Ne.symm hne)]; exact hmm
      have ps : ∀ e : Sl, e[0]? = some (some (.loc n)) → sDPutM (mVar 0) (mC (.str "count")) (mOp (addD true) (mDGet (mVar 0) (mC (.str "count"))) (mC (.int 1))) e st = .nx e st1 := fun e h => by
        have z : mDGet (mVar 0) (mC (.str "count")) e st = .ok (.int c) st := ev_dget h hn count_of
        unfold sDPutM
        simp only [mOp_ev, z, bind_ok, mC_ev, add_int, s_ok, mVar_ev h, dctOf, hn, keyOf, bagD]
        refine (if_pos (show _ < sizeLine from (by decide : 3 < sizeLine))).trans ?_
        rw [put_count, e1]
        rfl
      have q2 : ∀ e : Sl, e[0]? = some (some (.loc n)) → mDGet (mVar 0) (mC (.str "stirred")) e st1 = .ok (.int s) st1 := fun e h => ev_dget h hn1 stirred_of
      have q3 : ∀ e : Sl, e[0]? = some (some (.loc n)) → mDGet (mVar 0) (mC (.str "count")) e st1 = .ok (.int (c + 1)) st1 := fun e h => ev_dget h hn1 count_of
      have m1 : ∀ j : Int, ∀ st, mulD (.int 2654435761) (.int j) st = .ok (.int (2654435761 * j)) st := fun j st => mul_int (.inl ⟨by decide, by decide⟩)
      have m2 : ∀ j : Int, ∀ st, mulD (.int 40503) (.int j) st = .ok (.int (40503 * j)) st := fun j st => mul_int (.inl ⟨by decide, by decide⟩)
      have m3 : ∀ j k : Int, 0 < k → k < 2 ^ 64 → ∀ st, mulD (.int (j % k)) (.int (j % k)) st = .ok (.int (j % k * (j % k))) st := fun j k h h2 st => mul_int (.inl ⟨by have := Int.emod_nonneg j (b := k) (by omega); omega, by have := Int.emod_lt_of_pos j h; omega⟩)
      refine ⟨(((((s + 2654435761 * (c + 1)) % 4294967279 * ((s + 2654435761 * (c + 1)) % 4294967279) + 40503 * (c + 1) + 19) % 4294967231 * (((s + 2654435761 * (c + 1)) % 4294967279 * ((s + 2654435761 * (c + 1)) % 4294967279) + 40503 * (c + 1) + 19) % 4294967231) + s) % 4294967197) / 256) % many, st1, ?_, ⟨hne, [], s, c + 1, hn1, hm1, by decide⟩, by rw [e1]; exact Only.set (.inl rfl), by rw [e1]; simp, fun h => by omega, fun _ => ⟨Int.emod_nonneg _ (by omega), Int.emod_lt_of_pos _ hp⟩⟩
      · unfold runBody B_draw
        simp [mVar, h2, q1, nz, ps, q2, q3, m1, m2, m3, mod_int, div_int, hp]
/-- a loop through values whose body goes on -/
theorem walk_all {body : D → SM} (I : Sl → Sto → Prop) : ∀ (xs : List D) (e : Sl) (st : Sto), (∀ x ∈ xs, ∀ e st, I e st → ∃ e' st', body x e st = .nx e' st' ∧ I e' st') → I e st → ∃ e' st', walk body xs e st = .nx e' st' ∧ I e' st'
  | [], e, st, _, h => ⟨e, st, rfl, h⟩
  | x :: xs, e, st, step, h => by
    obtain ⟨e1, st1, h1, h2⟩ := step x List.mem_cons_self e st h
    obtain ⟨e2, st2, h3, h4⟩ := walk_all I xs e1 st1 (fun y hy => step y (List.mem_cons_of_mem x hy)) h2
    exact ⟨e2, st2, by unfold walk; rw [h1]; exact h3, h4⟩
@[simp] theorem name_m (i : Nat) (d : D) (e : Sl) : (Tg.name i).m d e = some (e.set i (some d)) := rfl
@[simp] theorem asg_name (i : Nat) (body : SM) (d : D) (e : Sl) (st : Sto) : asg (Tg.name i).m body d e st = body (e.set i (some d)) st := rfl
def cellI (i : Int) : Int := 2 * (if i < 0 then -i else i) + (if i < 0 then 1 else 0)
theorem bag_run {c0 : Int} {ns : List Int} (hl : ns.length ≤ 63) : ∃ st', runBody 4 (B_bag c0) [.lst (ns.map D.int)] [] = .ok (.loc 0) st' ∧ Bag st' 0 1 := by
  have h63 : 63 ≤ sizeLine := by decide
  obtain ⟨ms, hms, hml⟩ : ∃ ms : List Int, ((ns.map D.int).drop (HT.sIx (ns.map D.int).length 0 none)).take (HT.sIx (ns.map D.int).length (ns.map D.int).length (some 63) - HT.sIx (ns.map D.int).length 0 none) = ms.map D.int ∧ ms.length ≤ 63 :=
    ⟨(ns.drop (HT.sIx (ns.map D.int).length 0 none)).take (HT.sIx (ns.map D.int).length (ns.map D.int).length (some 63) - HT.sIx (ns.map D.int).length 0 none), by rw [List.map_take, List.map_drop], by rw [List.length_take, List.length_drop]; omega⟩
  have q1 : ∀ (e : Sl) (st : Sto), e[0]? = some (some (.lst (ns.map D.int))) → mSlice false (mVar 0) pmNone (pmSome (mC (.int 63))) e st = .ok (.lst (ms.map D.int)) st := fun e st h => by
    unfold mSlice
    rw [mVar_ev h]
    simp only [bind_ok, pmNone, pmSome, mC_ev, sliceD, items]
    rw [hms]
    rfl
  have q2 : ∀ (e : Sl) (st : Sto), e.length = 4 → e[0]? = some (some (.lst (ns.map D.int))) → mLc false (imSeq (mSlice false (mVar 0) pmNone (pmSome (mC (.int 63))))) [3] (Tg.name 3).m (fun _ st => .ok true st) (mOp (addD false) (mOp mulD (mC (.int 2)) (mCall absD [mVar 3])) (mCall intD [mOp (cmpD .Lt) (mVar 3) (mC (.int 0))])) e st = .ok (.lst ((ms.map cellI).map D.int)) st := fun e st he h => by
    rw [mLc_seq (q1 e st h) (by rfl), mapW_fun (fun _ => true) (fun d => match d with | .int i => .int (cellI i) | d => d)]
    · rw [List.nil_append, List.filter_eq_self.mpr (fun _ _ => rfl), List.map_map, List.map_map]
      rfl
    · intro x hx
      obtain ⟨i, _, rfl⟩ := List.mem_map.mp hx
      refine ⟨_, name_m _ _ _, rfl, fun _ => ?_⟩
      have h3 : ((wipeE e [3]).set 3 (some (D.int i)))[3]? = some (some (D.int i)) := List.getElem?_set_self (by simp [wipeE, he])
      simp only [mOp_ev, mC_ev, mCall_ev, mL_cons, mL_nil, mVar_ev h3, bind_ok, abs_int, cmp_lt, int_bl]
      rw [mul_int (.inl ⟨by decide, by decide⟩)]
      simp only [bind_ok, add_int, cellI, decide_eq_true_eq]
    · rw [List.length_map, List.length_nil]; omega
  have cl : ∀ cell : Int, 0 ≤ cellI cell := fun cell => by unfold cellI; split <;> omega
  generalize hcs : ms.map cellI = cs at q2
  have lcs : cs.length ≤ 63 := by rw [← hcs, List.length_map]; exact hml
  obtain ⟨s1, s2, s3⟩ : ∃ e2 st2, walk (asg (Tg.name 3).m (sAsg (mOp (arD .Mod) (mCall intD [mOp (addD false) (mOp (addD false) (mOp mulD (mVar 2) (mC (.int 48271))) (mVar 3)) (mC (.int 13))]) (mC (.int 4294967291))) (gmName 2))) (cs.map D.int) [some (.lst (ns.map D.int)), some (.lst (cs.map D.int)), some (.int (c0 + ms.length)), none] [] = .nx e2 st2 ∧ e2.length = 4 ∧ e2[1]? = some (some (.lst (cs.map D.int))) ∧ (∃ s, e2[2]? = some (some (.int s))) ∧ st2 = [] := by
    refine walk_all (fun e st => e.length = 4 ∧ e[1]? = some (some (.lst (cs.map D.int))) ∧ (∃ s, e[2]? = some (some (.int s))) ∧ st = []) _ _ _ (fun x hx e st ⟨h1, h2, ⟨s, h3⟩, h4⟩ => ?_) ⟨rfl, rfl, ⟨_, rfl⟩, rfl⟩
    obtain ⟨i, _, rfl⟩ := List.mem_map.mp hx
    have k2 : (e.set 3 (some (D.int i)))[2]? = some (some (.int s)) := by rw [List.getElem?_set_ne (by decide)]; exact h3
    have k3 : (e.set 3 (some (D.int i)))[3]? = some (some (.int i)) := List.getElem?_set_self (by omega)
    refine ⟨(e.set 3 (some (D.int i))).set 2 (some (.int ((s * 48271 + i + 13) % 4294967291))), st, ?_, by simp [h1], by rw [List.getElem?_set_ne (by decide), List.getElem?_set_ne (by decide)]; exact h2, ⟨_, List.getElem?_set_self (by simp [h1])⟩, h4⟩
    · rw [asg_name]
      simp only [sAsg_ev, mOp_ev, mCall_ev, mL_cons, mL_nil, mVar_ev k2, mVar_ev k3, mC_ev, bind_ok, add_int, int_int, s_ok]
      rw [mul_int (.inr ⟨by decide, by decide⟩)]
      simp only [bind_ok, add_int, int_int, s_ok]
      rw [mod_int (by decide)]
      rfl
  obtain ⟨w, k1, k2, ⟨z, k3⟩, rfl⟩ := s3
  refine ⟨[bagD 1 z 0, .lst ((cs.filter fun i => decide (10 ^ 15 ≤ i)).map D.int)], ?_, ⟨by decide, cs.filter fun i => decide (10 ^ 15 ≤ i), z, 0, rfl, rfl, Nat.le_trans (List.length_filter_le _ _) lcs⟩⟩
  have q3 : ∀ st, mLc true (imSeq (mVar 1)) [3] (Tg.name 3).m (mTst (mOp (cmpD .GtE) (mVar 3) (mOp (arD .Pow) (mC (.int 10)) (mC (.int 15))))) (mVar 3) s1 st = .ok (.loc st.length) (st ++ [.lst ((cs.filter fun i => decide (10 ^ 15 ≤ i)).map D.int)]) := fun st => by
    rw [mLc_seq (mVar_ev k2) (by rfl), mapW_fun (fun d => match d with | .int i => decide (10 ^ 15 ≤ i) | _ => false) id]
    · rw [List.nil_append, List.map_id, List.filter_map]
      rfl
    · intro x hx
      obtain ⟨i, _, rfl⟩ := List.mem_map.mp hx
      have h3 : ((wipeE s1 [3]).set 3 (some (D.int i)))[3]? = some (some (D.int i)) := List.getElem?_set_self (by simp [wipeE, k1])
      refine ⟨_, name_m _ _ _, ?_, fun _ => mVar_ev h3⟩
      simp only [mTst_ev, mOp_ev, mVar_ev h3, bind_ok, mC_ev]
      rfl
    · rw [List.length_map, List.length_nil]; omega
  unfold runBody B_bag
  show (match (sSeq _ _ [some (.lst (ns.map D.int)), none, none, none] []) with | .nx _ st' => _ | .rt d st' => _ | .exc c fs _ st' => _ | _ => _) = _
  have hp : sPar 1 2 (mLc false (imSeq (mSlice false (mVar 0) pmNone (pmSome (mC (.int 63))))) [3] (Tg.name 3).m (fun _ st => .ok true st) (mOp (addD false) (mOp mulD (mC (.int 2)) (mCall absD [mVar 3])) (mCall intD [mOp (cmpD .Lt) (mVar 3) (mC (.int 0))]))) (mOp (addD false) (mC (.int c0)) (mCall lenD [mSlice false (mVar 0) pmNone (pmSome (mC (.int 63)))])) [some (.lst (ns.map D.int)), none, none, none] [] = .nx [some (.lst (ns.map D.int)), some (.lst (cs.map D.int)), some (.int (c0 + ms.length)), none] [] := by
    unfold sPar
    simp only [mL_cons, mL_nil, q2 [some (.lst (ns.map D.int)), none, none, none] [] rfl rfl, bind_ok, mOp_ev, mC_ev, mCall_ev, q1 [some (.lst (ns.map D.int)), none, none, none] [] rfl, lenD, seqItems, items, add_int, s_ok, List.length_map]
    rfl
  rw [sSeq_ev, hp, seq_nx, sSeq_ev, sFor_seq (mVar_ev (by rfl)) (by rfl), w, seq_nx, sRet_ev]
  have hd : mDict [(mC (.str "far"), mLc true (imSeq (mVar 1)) [3] (Tg.name 3).m (mTst (mOp (cmpD .GtE) (mVar 3) (mOp (arD .Pow) (mC (.int 10)) (mC (.int 15))))) (mVar 3)), (mC (.str "stirred"), mVar 2), (mC (.str "count"), mC (.int 0))] s1 [] = .ok (.loc 0) [bagD 1 z 0, .lst ((cs.filter fun i => decide (10 ^ 15 ≤ i)).map D.int)] := by
    unfold mDict
    simp only [mPairs, mC_ev, bind_ok, q3, keyOf, mVar_ev k3]
    rfl
  rw [hd]
  rfl
end DX

/-! DxR: the laws' helpers, drawn orders. -/
set_option linter.all false
set_option maxRecDepth 100000
set_option Elab.async false
namespace DX
open PySem PySem.Spec PyProof.Rows L2

theorem ev_fn {F : FI} {perm : List Nat} {ms : List EM} {e : Sl} {st st1 : Sto} {ds as : List D} (h : mL ms e st = .ok ds st1) (hp : pick perm ds = as) (hl : as.length = F.ps.length) : mFn F perm ms [] e st = F.run as st1 := by
  unfold mFn
  simp only [h, bind_ok, mL_nil, List.append_nil, hp]
  rw [if_pos hl]
theorem ev_fnK {F : FI} {perm : List Nat} {ms ks : List EM} {e : Sl} {st st1 st2 : Sto} {ds zs as : List D} (h : mL ms e st = .ok ds st1) (h2 : mL ks e st1 = .ok zs st2) (hp : pick perm (ds ++ zs) = as) (hl : as.length = F.ps.length) : mFn F perm ms ks e st = F.run as st2 := by
  unfold mFn
  simp only [h, h2, bind_ok, hp]
  rw [if_pos hl]
/-- values that can be compared, shown -/
def Flat1 (x : D) : Prop := ∃ p, pd x = some p ∧ p.canLay0 = true ∧ p.depth ≤ 63
theorem flat_int (i : Int) : Flat1 (.int i) := ⟨.int i, rfl, rfl, by unfold PyData.depth; omega⟩
theorem pds_all : ∀ xs : List D, (∀ x ∈ xs, Flat1 x) → ∃ ps, pds xs = some ps ∧ PyData.canLayAll0 ps = true ∧ PyData.depthAll ps ≤ 63
  | [], _ => ⟨[], rfl, rfl, by decide⟩
  | x :: xs, h => by
    obtain ⟨p, h1, h2, h3⟩ := h x List.mem_cons_self
    obtain ⟨ps, k1, k2, k3⟩ := pds_all xs fun y hy => h y (List.mem_cons_of_mem x hy)
    refine ⟨p :: ps, ?_, ?_, ?_⟩
    · unfold pds; rw [h1, k1]
    · unfold PyData.canLayAll0; rw [h2, k2]; rfl
    · unfold PyData.depthAll; omega
theorem lay_all {xs : List D} (h : ∀ x ∈ xs, Flat1 x) : ∃ ps, pds xs = some ps ∧ lay (.list ps) = true := by
  obtain ⟨ps, h1, h2, h3⟩ := pds_all xs h
  refine ⟨ps, h1, ?_⟩
  unfold lay
  rw [Bool.and_eq_true, decide_eq_true_eq]
  exact ⟨by unfold PyData.canLay0; exact h2, by unfold PyData.depth; omega⟩
theorem ne_nilF {st : Sto} {m : Nat} {xs : List D} (h : st[m]? = some (.lst xs)) (hf : ∀ x ∈ xs, Flat1 x) : cmpD .NotEq (.loc m) (.lst []) st = .ok (.bl (!xs.isEmpty)) st := by
  obtain ⟨ps, h1, h2⟩ := lay_all hf
  exact ne_nil h h1 h2
theorem popAt_nat {n : Nat} {xs : List D} {i : Int} {st : Sto} (h0 : 0 ≤ i) (h : i.toNat < xs.length) (hs : i < 2 ^ 63) : popAtD n xs [.int i] st = .ok xs[i.toNat] (st.set n (.lst (xs.eraseIdx i.toNat))) := by
  have h1 : seqIndex? i xs.length = some i.toNat := by
    unfold seqIndex?
    have : ¬ i < 0 := by omega
    have h2 : i < xs.length := by omega
    simp [this, h0, h2]
  simp only [popAtD]
  rw [if_pos (by omega), h1]
  simp only [List.getElem?_eq_getElem h]
theorem erase_perm : ∀ (xs : List D) (i : Nat) (h : i < xs.length), (xs[i] :: xs.eraseIdx i).Perm xs
  | x :: xs, 0, _ => .refl _
  | x :: xs, i + 1, h => by
    have h' : i < xs.length := by simpa using h
    show (xs[i] :: x :: xs.eraseIdx i).Perm (x :: xs)
    exact (List.Perm.swap x xs[i] _).trans ((erase_perm xs i h').cons x)
theorem append_ev {n : Nat} {xs : List D} {y : D} {st : Sto} (h : xs.length < sizeLine) : appendD n xs [y] st = .ok .non (st.set n (.lst (xs ++ [y]))) := if_pos h
def F_draw : FI := ⟨["bag", "many"], runBody 4 B_draw⟩
def B_mixed : SM :=
  sSeq (sPar 2 3 (mCall (listD true) [mVar 1]) (mLst true []))
  (sSeq (whileL (mTst (mOp (cmpD .NotEq) (mVar 2) (mLst false []))) (sExpr (mMeth appendD (mVar 3) [mMeth popAtD (mVar 2) [mFn F_draw [0, 1] [mVar 0, mCall lenD [mVar 2]] []]])) 100000)
  (sRet (mVar 3)))
theorem Bag.set {st : Sto} {n m i : Nat} {o : O} (h : Bag st n m) (h1 : i ≠ n) (h2 : i ≠ m) : Bag (st.set i o) n m := by
  obtain ⟨ne, far, s, c, a, b, l⟩ := h
  exact ⟨ne, far, s, c, by rw [List.getElem?_set_ne h1]; exact a, by rw [List.getElem?_set_ne h2]; exact b, l⟩
theorem Only.put {st0 st : Sto} {n m i : Nat} {o : O} (h : Only st0 st n m) (hi : st0.length ≤ i) : Only st0 (st.set i o) n m :=
  ⟨by rw [List.length_set]; exact h.len, fun j h1 h2 h3 => by rw [List.getElem?_set_ne (by omega)]; exact h.keep j h1 h2 h3⟩
theorem mixed_loop {st0 : Sto} {n m l f : Nat} {d : D} (hl : st0.length ≤ l) (hf : st0.length ≤ f) (lf : l ≠ f) (ln : l ≠ n) (lm : l ≠ m) (fn : f ≠ n) (fm : f ≠ m) : ∀ (k fuel : Nat) (left found : List D) (st : Sto), left.length = k → k < fuel → found.length + left.length < 100000 →
    (∀ x ∈ left, Flat1 x) → st[l]? = some (.lst left) → st[f]? = some (.lst found) → Bag st n m → Only st0 st n m →
    ∃ st' ys, whileL (mTst (mOp (cmpD .NotEq) (mVar 2) (mLst false []))) (sExpr (mMeth appendD (mVar 3) [mMeth popAtD (mVar 2) [mFn F_draw [0, 1] [mVar 0, mCall lenD [mVar 2]] []]])) fuel [some (.loc n), some d, some (.loc l), some (.loc f)] st = .nx [some (.loc n), some d, some (.loc l), some (.loc f)] st' ∧ st'[f]? = some (.lst ys) ∧ ys.Perm (found ++ left) ∧ Bag st' n m ∧ Only st0 st' n m ∧ st'.length = st.length := by
  intro k
  induction k with
  | zero =>
    intro fuel left found st h1 h2 h3 h4 h5 h6 h7 h8
    obtain ⟨fuel, rfl⟩ : ∃ g, fuel = g + 1 := ⟨fuel - 1, by omega⟩
    have e0 : left = [] := List.length_eq_zero_iff.mp h1
    subst e0
    refine ⟨st, found, ?_, h6, by rw [List.append_nil], h7, h8, rfl⟩
    have z := ne_nilF h5 h4
    unfold whileL
    simp [mVar, z]
  | succ k ih =>
    intro fuel left found st h1 h2 h3 h4 h5 h6 h7 h8
    obtain ⟨fuel, rfl⟩ : ∃ g, fuel = g + 1 := ⟨fuel - 1, by omega⟩
    have z := ne_nilF h5 h4
    have ne : left.isEmpty = false := by
      cases left with
      | nil => cases h1
      | cons _ _ => rfl
    have lsz : (left.length : Int) < 1073741824 := by omega
    obtain ⟨r, st1, q1, q2, q3, q4, q5, q6⟩ := draw_run (many := (left.length : Int)) h7 lsz
    have ll : l < st.length := (List.getElem?_eq_some_iff.mp h5).1
    have fl : f < st.length := (List.getElem?_eq_some_iff.mp h6).1
    have r0 : 0 ≤ r ∧ r < left.length := by
      by_cases c : (left.length : Int) < 2
      · rw [q5 c]; omega
      · exact q6 (by omega)
    have rn : r.toNat < left.length := by omega
    have a1 : st1[l]? = some (.lst left) := (q3.keep l ln lm ll).trans h5
    have a2 : st1[f]? = some (.lst found) := (q3.keep f fn fm fl).trans h6
    have b2 : (st1.set l (.lst (left.eraseIdx r.toNat)))[f]? = some (.lst found) := by rw [List.getElem?_set_ne lf]; exact a2
    have hlen : lenD [.loc l] st = .ok (.int left.length) st := by simp [lenD, seqItems, items, h5]
    have p1 : mMeth popAtD (mVar 2) [mFn F_draw [0, 1] [mVar 0, mCall lenD [mVar 2]] []] [some (.loc n), some d, some (.loc l), some (.loc f)] st = .ok left[r.toNat] (st1.set l (.lst (left.eraseIdx r.toNat))) := by
      rw [ev_meth (ds := [.int r]) (st2 := st1) (mVar_ev (by rfl)) h5 ?_ a1, popAt_nat r0.1 rn (by omega)]
      simp only [mL_cons, mL_nil]
      rw [ev_fn (ds := [.loc n, .int left.length]) (st1 := st) (as := [.loc n, .int left.length]) ?_ (by rfl) (by rfl)]
      · rw [show F_draw.run = runBody 4 B_draw from rfl, q1]
        rfl
      · simp [mVar, hlen]
    have p2 : sExpr (mMeth appendD (mVar 3) [mMeth popAtD (mVar 2) [mFn F_draw [0, 1] [mVar 0, mCall lenD [mVar 2]] []]]) [some (.loc n), some d, some (.loc l), some (.loc f)] st = .nx [some (.loc n), some d, some (.loc l), some (.loc f)] ((st1.set l (.lst (left.eraseIdx r.toNat))).set f (.lst (found ++ [left[r.toNat]]))) := by
      rw [sExpr_ev, ev_meth (ds := [left[r.toNat]]) (st2 := st1.set l (.lst (left.eraseIdx r.toNat))) (mVar_ev (by rfl)) h6 (by simp only [mL_cons, mL_nil, p1, bind_ok]) b2, append_ev (Nat.lt_of_lt_of_le (by omega) (show 100000 ≤ sizeLine by decide))]
      rfl
    have le : (left.eraseIdx r.toNat).length = k := by rw [List.length_eraseIdx_of_lt rn]; omega
    have l1 : l < st1.length := by rw [q4]; exact ll
    have f1 : f < (st1.set l (.lst (left.eraseIdx r.toNat))).length := by rw [List.length_set, q4]; exact fl
    obtain ⟨st', ys, k1, k2, k3, k4, k5, k6⟩ := ih fuel (left.eraseIdx r.toNat) (found ++ [left[r.toNat]]) ((st1.set l (.lst (left.eraseIdx r.toNat))).set f (.lst (found ++ [left[r.toNat]]))) le (by omega) (by rw [List.length_append, List.length_singleton, le]; omega)
      (fun x hx => h4 x (List.mem_of_mem_eraseIdx hx)) (by rw [List.getElem?_set_ne (Ne.symm lf)]; exact List.getElem?_set_self l1) (List.getElem?_set_self f1) ((q2.set ln lm).set fn fm) (((h8.trans q3).put hl).put hf)
    refine ⟨st', ys, ?_, k2, k3.trans ?_, k4, k5, by rw [k6, List.length_set, List.length_set, q4]⟩
    · unfold whileL
      simp only [mTst_ev, mOp_ev, bind_ok, mLst_nil, mVar_ev (show ([some (D.loc n), some d, some (.loc l), some (.loc f)] : Sl)[2]? = some (some (.loc l)) from rfl), z, ne, s_ok, Bool.not_false, if_true]
      rw [p2]
      exact k1
    · rw [List.append_assoc]
      exact List.Perm.append_left found (erase_perm left _ rn)
theorem mixed_run {st : Sto} {n m : Nat} {d : D} {xs : List D} (hB : Bag st n m) (hd : seqItems st d = some xs) (hx : ∀ x ∈ xs, Flat1 x) (hl : xs.length < 100000) :
    ∃ st' ys, runBody 4 B_mixed [.loc n, d] st = .ok (.loc (st.length + 1)) st' ∧ st'[st.length + 1]? = some (.lst ys) ∧ ys.Perm xs ∧ Bag st' n m ∧ Only st st' n m ∧ st'.length = st.length + 2 := by
  have nl : n < st.length := by obtain ⟨_, _, _, _, h, _⟩ := hB; exact (List.getElem?_eq_some_iff.mp h).1
  have ml : m < st.length := by obtain ⟨_, _, _, _, _, h, _⟩ := hB; exact (List.getElem?_eq_some_iff.mp h).1
  have hB2 : Bag (st ++ [.lst xs] ++ [.lst []]) n m := by
    obtain ⟨ne, far, s, c, a, b, l⟩ := hB
    exact ⟨ne, far, s, c, by rw [List.append_assoc, List.getElem?_append_left nl]; exact a, by rw [List.append_assoc, List.getElem?_append_left ml]; exact b, l⟩
  have hO : Only st (st ++ [.lst xs] ++ [.lst []]) n m := ⟨by simp, fun i _ _ h => by rw [List.append_assoc, List.getElem?_append_left h]⟩
  obtain ⟨st', ys, h1, h2, h3, h4, h5, h6⟩ := mixed_loop (st0 := st) (n := n) (m := m) (l := st.length) (f := st.length + 1) (d := d) (Nat.le_refl _) (by omega) (by omega) (by omega) (by omega) (by omega) (by omega) xs.length 100000 xs [] (st ++ [.lst xs] ++ [.lst []]) rfl hl (by simpa using hl) hx
    (by simp) (by simp) hB2 hO
  refine ⟨st', ys, ?_, h2, by simpa using h3, h4, h5, by rw [h6]; simp⟩
  unfold runBody B_mixed
  have hp : sPar 2 3 (mCall (listD true) [mVar 1]) (mLst true []) [some (.loc n), some d, none, none] st = .nx [some (.loc n), some d, some (.loc st.length), some (.loc (st.length + 1))] (st ++ [.lst xs] ++ [.lst []]) := by
    unfold sPar
    simp [mVar, listD, hd, newL]
  show (match sSeq _ _ [some (.loc n), some d, none, none] st with | .nx _ st' => _ | .rt d st' => _ | .exc c fs _ st' => _ | _ => _) = _
  rw [sSeq_ev, hp, seq_nx, sSeq_ev, h1, seq_nx]
  rfl
theorem Bag.lt1 {st : Sto} {n m : Nat} (h : Bag st n m) : n < st.length := by
  obtain ⟨_, _, _, _, h, _⟩ := h
  exact (List.getElem?_eq_some_iff.mp h).1
theorem Bag.lt2 {st : Sto} {n m : Nat} (h : Bag st n m) : m < st.length := by
  obtain ⟨_, _, _, _, _, h, _⟩ := h
  exact (List.getElem?_eq_some_iff.mp h).1
def upto (n : Nat) : List D := (List.range n).map fun (i : Nat) => D.int i
theorem upto_len (n : Nat) : (upto n).length = n := by simp [upto]
theorem upto_mem {n : Nat} {x : D} (h : x ∈ upto n) : ∃ i : Nat, i < n ∧ x = .int i := by
  obtain ⟨i, hi, rfl⟩ := List.mem_map.mp h
  exact ⟨i, List.mem_range.mp hi, rfl⟩
theorem rng_at (n : Nat) (st : Sto) (i : Nat) : (Itr.rng 0 n).at st i = (upto n)[i]? := by
  show (if i < n then some (D.int (0 + (i : Nat))) else none) = _
  unfold upto
  rw [List.getElem?_map]
  by_cases h : i < n
  · rw [if_pos h, List.getElem?_range h, Int.zero_add]; rfl
  · rw [if_neg h, List.getElem?_eq_none (by simpa using h)]; rfl
theorem mLc_range {mt : Bool} {im : IM} {vs : List Nat} {g : GM} {c : TM} {f : EM} {n : Nat} {e : Sl} {st st1 : Sto} (h : im e st = .ok (.rng 0 n) st1) : mLc mt im vs g c f e st = (mapW g c f (wipeE e vs) (upto n) [] st1).bind (newC mt) :=
  mLc_walk h (fun _ => by rw [upto_len]; rfl) (rng_at n)
theorem sFor_range {im : IM} {g : GM} {body : SM} {n : Nat} {e : Sl} {st st1 : Sto} (h : im e st = .ok (.rng 0 n) st1) : sFor im g body e st = walk (asg g body) (upto n) e st1 :=
  sFor_walk h (fun _ => by rw [upto_len]; rfl) (rng_at n)
theorem rg_upto (n : Nat) : rgD 0 n = upto n := by
  unfold rgD upto
  have : ((n : Int) - 0).toNat = n := by omega
  rw [this]
  exact List.map_congr_left fun i _ => by rw [Int.zero_add]
end DX

/-! DxS: small data: what can be shown. -/
set_option linter.all false
set_option maxRecDepth 100000
set_option Elab.async false
namespace DX
open PySem PySem.Spec PyProof.Rows L2

/-! ### signs -/
theorem ok_app (a b : Str) : PyData.strOk (a ++ b) = (PyData.strOk a && PyData.strOk b) := by
  unfold PyData.strOk
  show ((a.cps ++ b.cps).all _) = _
  rw [Array.all_append]
theorem ok_from : ∀ (ts : List Str) (k : Nat) (acc : Str), PyData.strOk acc = true → (∀ t ∈ ts, PyData.strOk t = true) → PyData.strOk (textFrom k acc ts) = true
  | [], _, _, h, _ => h
  | t :: ts, k, acc, h, q => by
    unfold textFrom
    refine ok_from ts (k + 1) _ ?_ fun u hu => q u (List.mem_cons_of_mem t hu)
    rw [ok_app, ok_app, h, q t List.mem_cons_self]
    by_cases c : k > 0
    · rw [if_pos c]; decide +kernel
    · rw [if_neg c]; decide +kernel
theorem ok_list {ts : List Str} (q : ∀ t ∈ ts, PyData.strOk t = true) : PyData.strOk (listText ts) = true := by
  unfold listText
  rw [ok_app, ok_from ts 0 _ (by decide +kernel) q]
  decide +kernel
theorem ok_join : ∀ ts : List Str, (∀ t ∈ ts, PyData.strOk t = true) → PyData.strOk (Str.join ", " ts) = true
  | [], _ => by decide +kernel
  | [t], q => q t List.mem_cons_self
  | t :: u :: r, q => by
    show PyData.strOk (t ++ ", " ++ Str.join ", " (u :: r)) = true
    rw [ok_app, ok_app, q t List.mem_cons_self, ok_join (u :: r) fun v hv => q v (List.mem_cons_of_mem t hv)]
    decide +kernel
theorem ok_tuple {ts : List Str} (q : ∀ t ∈ ts, PyData.strOk t = true) : PyData.strOk (tupleText ts) = true := by
  unfold tupleText
  rw [ok_app, ok_app, ok_join ts q]
  by_cases c : (ts.length == 1) = true
  · rw [if_pos c]; decide +kernel
  · rw [if_neg c]; decide +kernel
/-- data whose text has n signs at most, nested d deep at most -/
def Sh (n d : Nat) (x : D) : Prop := ∃ p, pd x = some p ∧ canE p = true ∧ p.showable = true ∧ p.depth ≤ d ∧ p.shown.length ≤ n ∧ PyData.strOk p.shown = true
def shB (n d : Nat) (x : D) : Bool := match pd x with
  | some p => canE p && p.showable && decide (p.depth ≤ d) && decide (p.shown.length ≤ n) && PyData.strOk p.shown
  | none => false
theorem sh_of {n d : Nat} {x : D} (h : shB n d x = true) : Sh n d x := by
  unfold shB at h
  split at h
  · rename_i p e
    simp only [Bool.and_eq_true, decide_eq_true_eq] at h
    exact ⟨p, e, h.1.1.1.1, h.1.1.1.2, h.1.1.2, h.1.2, h.2⟩
  · cases h
theorem Sh.mono {n d m k : Nat} {x : D} (h : Sh n d x) (h1 : n ≤ m) (h2 : d ≤ k) : Sh m k x := by
  obtain ⟨p, e, a, b, c, l, o⟩ := h
  exact ⟨p, e, a, b, Nat.le_trans c h2, Nat.le_trans l h1, o⟩
theorem sh_items {n d : Nat} : ∀ xs : List D, (∀ x ∈ xs, Sh n d x) → ∃ ps, pds xs = some ps ∧ canEs ps = true ∧ PyData.showableAll ps = true ∧ PyData.depthAll ps ≤ d ∧ ((PyData.shownAll ps).map (·.length)).sum ≤ n * xs.length ∧ (PyData.shownAll ps).length = xs.length ∧ ∀ t ∈ PyData.shownAll ps, PyData.strOk t = true
  | [], _ => ⟨[], rfl, rfl, rfl, Nat.zero_le _, Nat.zero_le _, rfl, fun _ h => nomatch h⟩
  | x :: xs, h => by
    obtain ⟨p, e, a, b, c, l, o⟩ := h x List.mem_cons_self
    obtain ⟨ps, e2, a2, b2, c2, l2, k2, o2⟩ := sh_items xs fun y hy => h y (List.mem_cons_of_mem x hy)
    refine ⟨p :: ps, ?_, ?_, ?_, ?_, ?_, ?_, ?_⟩
    · unfold pds; rw [e, e2]
    · unfold canEs; rw [a, a2]; rfl
    · unfold PyData.showableAll; rw [b, b2]; rfl
    · unfold PyData.depthAll; omega
    · unfold PyData.shownAll
      rw [List.map_cons, List.sum_cons, List.length_cons, Nat.mul_succ]
      omega
    · unfold PyData.shownAll
      rw [List.length_cons, List.length_cons, k2]
    · unfold PyData.shownAll
      intro t ht
      rcases List.mem_cons.mp ht with rfl | ht
      · exact o
      · exact o2 t ht
theorem Sh.tup {n d k : Nat} {xs : List D} (h : ∀ x ∈ xs, Sh n d x) (hk : xs.length ≤ k) : Sh (n * k + 2 * k + 3) (d + 1) (.tup xs) := by
  obtain ⟨ps, e, a, b, c, l, z, o⟩ := sh_items xs h
  have le := tupleText_len_le (PyData.shownAll ps)
  have mul : n * xs.length ≤ n * k := Nat.mul_le_mul_left n hk
  refine ⟨.tuple ps, by unfold pd; rw [e], by unfold canE; exact a, by unfold PyData.showable; exact b, by unfold PyData.depth; omega, ?_, ok_tuple o⟩
  show (tupleText (PyData.shownAll ps)).length ≤ _
  omega
theorem Sh.lst {n d k : Nat} {xs : List D} (h : ∀ x ∈ xs, Sh n d x) (hk : xs.length ≤ k) : Sh (n * k + 2 * k + 3) (d + 1) (.lst xs) := by
  obtain ⟨ps, e, a, b, c, l, z, o⟩ := sh_items xs h
  have le := listText_len_le (PyData.shownAll ps)
  have mul : n * xs.length ≤ n * k := Nat.mul_le_mul_left n hk
  refine ⟨.list ps, by unfold pd; rw [e], by unfold canE; exact a, by unfold PyData.showable; exact b, by unfold PyData.depth; omega, ?_, ok_list o⟩
  show (listText (PyData.shownAll ps)).length ≤ _
  omega
theorem flat_data {st : Sto} {x : D} {p : PyData} (h : pd x = some p) : flat st x = x := by
  cases x with
  | loc n => cases h
  | _ => rfl
theorem view_data {st : Sto} {x : D} {p : PyData} (h : pd x = some p) : view st x = some p := by
  unfold view
  rw [flat_data h, h]
theorem Sh.ok {n d : Nat} {x : D} (h : Sh n d x) (hn : n ≤ 1000000) (hd : d ≤ 64) : ∃ p, pd x = some p ∧ okShow p = true := by
  obtain ⟨p, e, a, b, c, l, _⟩ := h
  refine ⟨p, e, ?_⟩
  unfold okShow
  simp only [Bool.and_eq_true, decide_eq_true_eq]
  exact ⟨⟨⟨a, b⟩, Nat.le_trans c hd⟩, Nat.le_trans l (Nat.le_trans hn (by decide))⟩
/-- what repr tells of it -/
def told (x : D) : Str := match pd x with
  | some p => p.shown
  | none => Str.ofString ""
theorem repr_ev {n d : Nat} {x : D} {st : Sto} (h : Sh n d x) (hn : n ≤ 1000000) (hd : d ≤ 64) : reprD [x] st = .ok (.str (told x)) st := by
  obtain ⟨p, e, ok⟩ := h.ok hn hd
  unfold reprD
  simp only [view_data e, ok, if_true, told, e]
theorem told_ok {n d : Nat} {x : D} (h : Sh n d x) : PyData.strOk (told x) = true := by
  obtain ⟨p, e, _, _, _, _, o⟩ := h
  unfold told
  rw [e]
  exact o
/-- strings that are equal -/
theorem eq_str_ev {x y : Str} {st : Sto} (hx : PyData.strOk x = true) (hy : PyData.strOk y = true) : cmpD .Eq (.str x) (.str y) st = .ok (.bl (x == y)) st := by
  have l1 : lay (.str x) = true := by unfold lay PyData.canLay0; rw [hx]; rfl
  have l2 : lay (.str y) = true := by unfold lay PyData.canLay0; rw [hy]; rfl
  have e : eqB (.str x) (.str y) st = some (x == y) := by
    unfold eqB
    rw [show view st (.str x) = some (.str x) from rfl, show view st (.str y) = some (.str y) from rfl]
    simp only [l1, l2, Bool.and_self, if_true]
    rfl
  show R.of ((eqB (.str x) (.str y) st).map D.bl) st = _
  rw [e]; rfl
end DX

/-! DxT: looks for the first that is wrong. -/
set_option linter.all false
set_option maxRecDepth 100000
set_option Elab.async false
namespace DX
open PySem PySem.Spec PyProof.Rows L2

/-- data of any size (not deeper than 64) -/
def Any (x : D) : Prop := ∃ p, pd x = some p ∧ okE p = true
theorem Sh.any {n d : Nat} {x : D} (h : Sh n d x) (hd : d ≤ 64) : Any x := by
  obtain ⟨p, e, a, _, c, _⟩ := h
  refine ⟨p, e, ?_⟩
  unfold okE
  rw [a, Bool.true_and, decide_eq_true_eq]
  omega
theorem canEs_mem {ps : List PyData} (h : canEs ps = true) {j : Nat} {p : PyData} (e : ps[j]? = some p) : canE p = true := canEs_at h e
theorem pds_at : ∀ {xs : List D} {ps : List PyData}, pds xs = some ps → ∀ {j : Nat} {x : D}, xs[j]? = some x → ∃ p, ps[j]? = some p ∧ pd x = some p
  | [], _, _, _, _, e => by cases e
  | y :: ys, ps, h, j, x, e => by
    unfold pds at h
    split at h
    · rename_i q qs h1 h2
      cases h
      cases j with
      | zero => cases e; exact ⟨q, rfl, h1⟩
      | succ j => exact pds_at h2 (j := j) e
    · cases h
theorem Any.items {x : D} {xs : List D} (h : Any x) (hx : ofSeq x = some xs) : ∀ (j : Nat) (y : D), xs[j]? = some y → Any y := by
  obtain ⟨p, e, ok⟩ := h
  unfold okE at ok
  rw [Bool.and_eq_true, decide_eq_true_eq] at ok
  intro j y hy
  have both : ∃ ps, pds xs = some ps ∧ canEs ps = true ∧ PyData.depthAll ps < 64 := by
    cases x with
    | tup ys =>
      cases hx
      unfold pd at e
      cases z : pds xs with
      | none => rw [z] at e; cases e
      | some ps =>
        rw [z] at e; cases e
        exact ⟨ps, rfl, by have := ok.1; unfold canE at this; exact this, by have := ok.2; unfold PyData.depth at this; omega⟩
    | lst ys =>
      cases hx
      unfold pd at e
      cases z : pds xs with
      | none => rw [z] at e; cases e
      | some ps =>
        rw [z] at e; cases e
        exact ⟨ps, rfl, by have := ok.1; unfold canE at this; exact this, by have := ok.2; unfold PyData.depth at this; omega⟩
    | _ => cases hx
  obtain ⟨ps, h1, h2, h3⟩ := both
  obtain ⟨q, hq, hp⟩ := pds_at h1 hy
  refine ⟨q, hp, ?_⟩
  unfold okE
  rw [canEs_at h2 hq, Bool.true_and, decide_eq_true_eq]
  have := depth_at hq
  omega
/-- one of the items qs -/
def isAny (qs : List PyData) (x : D) : Bool := match pd x with
  | some p => qs.any fun z => PyData.eqv z p
  | none => false
theorem inE_ev {x c : D} {qs : List PyData} {st : Sto} (hx : Any x) (hc : pd c = some (.list qs) ∨ pd c = some (.tuple qs)) (hs : stBs qs = true) : inE x c st = some (isAny qs x) := by
  obtain ⟨p, e, ok⟩ := hx
  unfold inE isAny
  rcases hc with hc | hc <;> simp only [view_data e, view_data hc, ok, hs, e, Bool.and_self, if_true]
theorem notin_ev {x c : D} {qs : List PyData} {st : Sto} (hx : Any x) (hc : pd c = some (.list qs) ∨ pd c = some (.tuple qs)) (hs : stBs qs = true) : cmpD .NotIn x c st = .ok (.bl (!isAny qs x)) st := by
  show R.of (((inE x c st).map (!·)).map D.bl) st = _
  rw [inE_ev hx hc hs]; rfl
theorem in_ev {x c : D} {qs : List PyData} {st : Sto} (hx : Any x) (hc : pd c = some (.list qs) ∨ pd c = some (.tuple qs)) (hs : stBs qs = true) : cmpD .In x c st = .ok (.bl (isAny qs x)) st := by
  show R.of ((inE x c st).map D.bl) st = _
  rw [inE_ev hx hc hs]; rfl
/-- a loop that leaves at the first that is so -/
theorem walk_find {body : D → SM} {st : Sto} (P : D → Bool) (F : D → D) (I : Sl → Prop) : ∀ (xs : List D) (e : Sl), (∀ x ∈ xs, ∀ e, I e → (P x = true → body x e st = .rt (F x) st) ∧ (P x = false → ∃ e', body x e st = .nx e' st ∧ I e')) → I e →
    (∃ x, xs.find? P = some x ∧ walk body xs e st = .rt (F x) st) ∨ (xs.find? P = none ∧ ∃ e', walk body xs e st = .nx e' st ∧ I e')
  | [], e, _, h => .inr ⟨rfl, e, rfl, h⟩
  | x :: xs, e, step, h => by
    obtain ⟨s1, s2⟩ := step x List.mem_cons_self e h
    cases c : P x with
    | true =>
      refine .inl ⟨x, by rw [List.find?_cons_of_pos c], ?_⟩
      unfold walk
      rw [s1 c]
    | false =>
      obtain ⟨e1, h1, h2⟩ := s2 c
      have rest := walk_find P F I xs e1 (fun y hy => step y (List.mem_cons_of_mem x hy)) h2
      rw [List.find?_cons_of_neg (by rw [c]; decide)]
      have one : walk body (x :: xs) e st = walk body xs e1 st := by
        show (match body x e st with
          | .nx e' st' => walk body xs e' st'
          | .ct e' st' => walk body xs e' st'
          | .bk e' st' => .nx e' st'
          | z => z) = _
        rw [h1]
      rw [one]
      exact rest
/-- the pairs that enumerate gives out -/
def pairsOf (xs : List D) : List D := (List.range xs.length).map fun (i : Nat) => .tup [.int i, xs.getD i .non]
theorem sFor_enum {m : EM} {g : GM} {body : SM} {d : D} {xs : List D} {e : Sl} {st st1 : Sto} (h : m e st = .ok d st1) (hd : ofSeq d = some xs) : sFor (imEnum m) g body e st = walk (asg g body) (pairsOf xs) e st1 := by
  have items_ : ∀ st, seqItems st d = some xs := fun st => by
    cases d with
    | lst ys => exact hd
    | tup ys => exact hd
    | _ => cases hd
  have it : imEnum m e st = .ok (.enum d) st1 := by
    unfold imEnum
    simp only [mL_cons, mL_nil, h, bind_ok, items_]
  refine sFor_walk it (fun st => ?_) fun st i => ?_
  · show (seqItems st d).map List.length = _
    rw [items_, pairsOf, List.length_map, List.length_range]
    rfl
  · show ((seqItems st d).bind fun xs => (xs[i]?).map fun x => D.tup [.int i, x]) = _
    rw [items_]
    unfold pairsOf
    rw [List.getElem?_map]
    by_cases z : i < xs.length
    · rw [List.getElem?_range z]
      show (xs[i]?).map _ = some (D.tup [.int i, xs.getD i .non])
      rw [List.getElem?_eq_getElem z, List.getD_eq_getElem?_getD, List.getElem?_eq_getElem z]
      rfl
    · rw [List.getElem?_eq_none (l := List.range xs.length) (by simpa using z)]
      show (xs[i]?).map _ = none
      rw [List.getElem?_eq_none (by omega)]
      rfl
/-- the first of items that is none of qs -/
def firstOut (qs : List PyData) (xs : List D) : Option Nat := (List.range xs.length).find? fun i => !isAny qs (xs.getD i .non)
end DX

/-! DxU: heads and manners judged, by the program and by the laws' own looks. -/
set_option linter.all false
set_option maxRecDepth 100000
set_option Elab.async false
namespace DX
open PySem PySem.Spec PyProof.Rows L2

def cStrengths : D := .tup [.str "none", .str "lazy", .str "forced"]
def cEnds : D := .tup [.str "abort", .str "commit"]
def cAscending : D := .tup [.tup [], .tup [.str "abort"], .tup [.str "commit"], .tup [.str "abort", .str "commit"]]
def qStrengths : List PyData := [.str "none", .str "lazy", .str "forced"]
def qEnds : List PyData := [.str "abort", .str "commit"]
def qAscending : List PyData := [.tuple [], .tuple [.str "abort"], .tuple [.str "commit"], .tuple [.str "abort", .str "commit"]]
theorem st_strengths : stBs qStrengths = true := by decide +kernel
theorem st_ends : stBs qEnds = true := by decide +kernel
theorem st_ascending : stBs qAscending = true := by decide +kernel
def isTupD : D → Bool
  | .tup _ => true
  | _ => false
def isBlD : D → Bool
  | .bl _ => true
  | _ => false
theorem isi_tuple {x : D} {st : Sto} (h : Any x) : isiD [x, .ty "tuple"] st = .ok (.bl (isTupD x)) st := by
  obtain ⟨p, e, _⟩ := h
  cases x with
  | loc n => cases e
  | glob g => cases e
  | ty n => cases e
  | _ => rfl
theorem isi_bool {x : D} {st : Sto} (h : Any x) : isiD [x, .ty "bool"] st = .ok (.bl (isBlD x)) st := by
  obtain ⟨p, e, _⟩ := h
  cases x with
  | loc n => cases e
  | glob g => cases e
  | ty n => cases e
  | _ => rfl
theorem eq_int_ev {i j : Int} {st : Sto} : cmpD .Eq (.int i) (.int j) st = .ok (.bl (i == j)) st := by rfl
theorem ne_int_ev {i j : Int} {st : Sto} : cmpD .NotEq (.int i) (.int j) st = .ok (.bl (!(i == j))) st := by rfl
theorem len_tup {xs : List D} {st : Sto} : lenD [.tup xs] st = .ok (.int xs.length) st := rfl
def B_strength_error : SM :=
  sSeq (sFor (imR1 (mCall lenD [mVar 0])) (Tg.name 1).m (sIf (mTst (mOp (cmpD .NotIn) (mOp ixD (mVar 0) (mVar 1)) (mC cStrengths))) (sRet (mTup [mC (.str "strength"), mVar 1])) (sNx)))
  (sRet (mC (.non)))
def F_strength_error : FI := ⟨["items"], runBody 2 B_strength_error⟩
def B_is_tuple_of : SM :=
  sRet (mAnd (mCall isiD [mVar 0, mC (.ty "tuple")]) (mOp (cmpD .Eq) (mCall lenD [mVar 0]) (mVar 1)))
def F_is_tuple_of : FI := ⟨["value", "many"], runBody 2 B_is_tuple_of⟩
theorem run_rt {n : Nat} {body : SM} {ds : List D} {st st' : Sto} {d : D} (h : body (ds.map some ++ List.replicate (n - ds.length) none) st = .rt d st') : runBody n body ds st = .ok d st' := by
  unfold runBody
  rw [h]
def errAt (o : Option Nat) : D := match o with
  | some i => .tup [.str "strength", .int i]
  | none => .non
theorem ix_tup {xs : List D} {i : Nat} {x : D} {st : Sto} (h : xs[i]? = some x) : ixD (.tup xs) (.int (i : Nat)) st = .ok x st := by
  have hi : i < xs.length := (List.getElem?_eq_some_iff.mp h).1
  have e : L2.atI xs (i : Nat) = some x := by
    unfold L2.atI L2.ixN
    rw [if_pos (by omega), if_pos (by omega)]
    simpa using h
  show R.of (L2.atI xs (i : Nat)) st = _
  rw [e]; rfl
theorem find_upto (P : D → Bool) (n : Nat) : (upto n).find? P = ((List.range n).find? fun (i : Nat) => P (.int i)).map fun (i : Nat) => D.int i := by
  unfold upto
  rw [List.find?_map]
  rfl
theorem cA {n : Nat} (hn : n ≤ 1000000) : -(2 ^ 62) ≤ (n : Int) ∧ (n : Int) < 2 ^ 62 := by
  have e : (2 : Int) ^ 62 = 4611686018427387904 := by rfl
  rw [e]; omega
theorem imR1_eq (m : EM) (e : Sl) (st : Sto) : imR1 m e st = (mL [m] e st).bind fun ds st1 => match ds with
  | [.int j] => (if -(2 ^ 62) ≤ j ∧ j < 2 ^ 62 then .ok (.rng 0 j.toNat) st1 else .no)
  | _ => .no := rfl
theorem imR1_ev {m : EM} {e : Sl} {st st1 : Sto} {j : Int} (h : m e st = .ok (.int j) st1) (c : -(2 ^ 62) ≤ j ∧ j < 2 ^ 62) : imR1 m e st = .ok (.rng 0 j.toNat) st1 := by
  rw [imR1_eq, mL_cons, h, bind_ok, mL_nil, bind_ok, bind_ok]
  dsimp only
  rw [if_pos c]
theorem imR1_nat {m : EM} {e : Sl} {st st1 : Sto} {n : Nat} (h : m e st = .ok (.int (n : Nat)) st1) (hn : n ≤ 1000000) : imR1 m e st = .ok (.rng 0 n) st1 := by
  have z := imR1_ev h (cA hn)
  rw [Int.toNat_natCast] at z
  exact z
theorem strength_run {xs : List D} {st : Sto} (h : Any (.tup xs)) (hn : xs.length ≤ 1000000) : F_strength_error.run [.tup xs] st = .ok (errAt (firstOut qStrengths xs)) st := by
  have im : imR1 (mCall lenD [mVar 0]) [some (.tup xs), none] st = .ok (.rng 0 xs.length) st := imR1_nat rfl hn
  have loop := walk_find (body := asg (Tg.name 1).m (sIf (mTst (mOp (cmpD .NotIn) (mOp ixD (mVar 0) (mVar 1)) (mC cStrengths))) (sRet (mTup [mC (.str "strength"), mVar 1])) (sNx))) (st := st)
    (fun d => match d with | .int i => !isAny qStrengths (xs.getD i.toNat .non) | _ => false) (fun d => .tup [.str "strength", d]) (fun e => ∃ y, e = [some (.tup xs), y]) (upto xs.length) [some (.tup xs), none] (fun x hx e ⟨y, he⟩ => by
      obtain ⟨i, hi, rfl⟩ := upto_mem hx
      subst he
      have at_ : xs[i]? = some xs[i] := List.getElem?_eq_getElem hi
      have get_ : xs.getD i .non = xs[i] := by rw [List.getD_eq_getElem?_getD, at_]; rfl
      have data : Any xs[i] := h.items rfl i _ at_
      have test : mTst (mOp (cmpD .NotIn) (mOp ixD (mVar 0) (mVar 1)) (mC cStrengths)) [some (.tup xs), some (.int (i : Nat))] st = .ok (!isAny qStrengths xs[i]) st := by
        have v0 : mVar 0 [some (.tup xs), some (.int (i : Nat))] st = .ok (.tup xs) st := rfl
        have v1 : mVar 1 [some (.tup xs), some (.int (i : Nat))] st = .ok (.int (i : Nat)) st := rfl
        simp only [mTst_ev, mOp_ev, v0, v1, bind_ok, ix_tup at_, mC_ev]
        rw [notin_ev data (.inr (show pd cStrengths = some (.tuple qStrengths) from rfl)) st_strengths]
        rfl
      have e1 : asg (Tg.name 1).m (sIf (mTst (mOp (cmpD .NotIn) (mOp ixD (mVar 0) (mVar 1)) (mC cStrengths))) (sRet (mTup [mC (.str "strength"), mVar 1])) (sNx)) (.int (i : Nat)) [some (.tup xs), y] st = if (!isAny qStrengths xs[i]) = true then sRet (mTup [mC (.str "strength"), mVar 1]) [some (.tup xs), some (.int (i : Nat))] st else .nx [some (.tup xs), some (.int (i : Nat))] st := by
        rw [asg_name]
        show sIf _ _ _ [some (.tup xs), some (.int (i : Nat))] st = _
        rw [sIf_ev, test, s_ok]
        rfl
      rw [e1]
      simp only [Int.toNat_natCast, get_]
      refine ⟨fun c => ?_, fun c => ⟨_, by rw [if_neg (by rw [c]; decide)], _, rfl⟩⟩
      rw [if_pos c]
      rfl) ⟨_, rfl⟩
  rw [show F_strength_error.run = runBody 2 B_strength_error from rfl]
  apply run_rt
  show B_strength_error [some (.tup xs), none] st = _
  unfold B_strength_error
  rw [sSeq_ev, sFor_range im]
  unfold firstOut
  rw [find_upto] at loop
  rcases loop with ⟨x, f1, f2⟩ | ⟨f1, e', f2, _⟩
  · rw [f2, seq_rt]
    cases z : (List.range xs.length).find? fun (i : Nat) => !isAny qStrengths (xs.getD i .non) with
    | none =>
      exfalso
      rw [show ((List.range xs.length).find? fun (i : Nat) => !isAny qStrengths (xs.getD ((i : Nat) : Int).toNat .non)) = none from z] at f1
      cases f1
    | some i =>
      rw [show ((List.range xs.length).find? fun (i : Nat) => !isAny qStrengths (xs.getD ((i : Nat) : Int).toNat .non)) = some i from z] at f1
      cases f1
      rfl
  · rw [f2, seq_nx, sRet_ev, mC_ev, s_ok]
    cases z : (List.range xs.length).find? fun (i : Nat) => !isAny qStrengths (xs.getD i .non) with
    | none => rfl
    | some i =>
      exfalso
      rw [show ((List.range xs.length).find? fun (i : Nat) => !isAny qStrengths (xs.getD ((i : Nat) : Int).toNat .non)) = some i from z] at f1
      cases f1
def hasLen (x : D) (k : Int) : Bool := match x with
  | .tup xs => ((xs.length : Nat) : Int) == k
  | _ => false
theorem is_tuple_run {x : D} {k : Int} {st : Sto} (h : Any x) : F_is_tuple_of.run [x, .int k] st = .ok (.bl (hasLen x k)) st := by
  rw [show F_is_tuple_of.run = runBody 2 B_is_tuple_of from rfl]
  apply run_rt
  show B_is_tuple_of [some x, some (.int k)] st = _
  unfold B_is_tuple_of
  have v0 : mVar 0 [some x, some (.int k)] st = .ok x st := rfl
  have v1 : mVar 1 [some x, some (.int k)] st = .ok (.int k) st := rfl
  have i0 : mCall isiD [mVar 0, mC (.ty "tuple")] [some x, some (.int k)] st = .ok (.bl (isTupD x)) st := by
    simp only [mCall_ev, mL_cons, mL_nil, v0, mC_ev, bind_ok]
    exact isi_tuple h
  have e : mAnd (mCall isiD [mVar 0, mC (.ty "tuple")]) (mOp (cmpD .Eq) (mCall lenD [mVar 0]) (mVar 1)) [some x, some (.int k)] st = .ok (.bl (hasLen x k)) st := by
    unfold mAnd
    rw [i0, bind_ok]
    cases c : isTupD x with
    | false =>
      have : hasLen x k = false := by cases x <;> first | rfl | cases c
      rw [this]; rfl
    | true =>
      cases x with
      | tup xs =>
        show mOp (cmpD .Eq) (mCall lenD [mVar 0]) (mVar 1) [some (.tup xs), some (.int k)] st = _
        simp only [mOp_ev, mCall_ev, mL_cons, mL_nil, v0, v1, bind_ok, len_tup, eq_int_ev]
        rfl
      | _ => cases c
  rw [sRet_ev, e, s_ok]
def B_head_error : SM :=
  sSeq (sIf (tmNot (mTru (mFn F_is_tuple_of [0, 1] [mVar 0, mC (.int 3)] []))) (sRet (mC (.str "form"))) (sNx))
  (sRet (mFn F_strength_error [0] [mVar 0] []))
def F_head_error : FI := ⟨["value"], runBody 1 B_head_error⟩
/-- what is wrong with a head -/
def headErr (x : D) : D := match x with
  | .tup xs => if ((xs.length : Nat) : Int) == 3 then errAt (firstOut qStrengths xs) else .str "form"
  | _ => .str "form"
theorem head_run {x : D} {st : Sto} (h : Any x) : F_head_error.run [x] st = .ok (headErr x) st := by
  rw [show F_head_error.run = runBody 1 B_head_error from rfl]
  apply run_rt
  show B_head_error [some x] st = _
  unfold B_head_error
  have v0 : mVar 0 [some x] st = .ok x st := rfl
  have t0 : mFn F_is_tuple_of [0, 1] [mVar 0, mC (.int 3)] [] [some x] st = .ok (.bl (hasLen x 3)) st := by
    rw [ev_fn (st1 := st) (ds := [x, .int 3]) (as := [x, .int 3]) (by simp only [mL_cons, mL_nil, v0, mC_ev, bind_ok]) rfl rfl]
    exact is_tuple_run h
  have t1 : tmNot (mTru (mFn F_is_tuple_of [0, 1] [mVar 0, mC (.int 3)] [])) [some x] st = .ok (!hasLen x 3) st := by
    rw [tmNot_ev]
    unfold mTru
    rw [t0]
    rfl
  rw [sSeq_ev, sIf_ev, t1, s_ok]
  cases c : hasLen x 3 with
  | false =>
    have e : headErr x = .str "form" := by
      cases x with
      | tup xs => show (if (((xs.length : Nat) : Int) == 3) = true then _ else _) = _; rw [show (((xs.length : Nat) : Int) == 3) = false from c]; rfl
      | _ => rfl
    rw [e]; rfl
  | true =>
    cases x with
    | tup xs =>
      have l3 : ((xs.length : Nat) : Int) = 3 := eq_of_beq c
      have e : headErr (.tup xs) = errAt (firstOut qStrengths xs) := if_pos c
      rw [e]
      rw [show (!true) = false from rfl, if_neg Bool.false_ne_true, sNx_ev, seq_nx, sRet_ev, ev_fn (st1 := st) (ds := [.tup xs]) (as := [.tup xs]) (by simp only [mL_cons, mL_nil, v0, bind_ok]) rfl rfl, strength_run h (by omega), s_ok]
    | _ => cases c
/-! ### the laws' own look -/
def B_head_fault : SM :=
  sSeq (sIf (tmOr (tmNot (mTru (mCall isiD [mVar 0, mC (.ty "tuple")]))) (mTst (mOp (cmpD .NotEq) (mCall lenD [mVar 0]) (mC (.int 3))))) (sRet (mC (.str "form"))) (sNx))
  (sSeq (sFor (imEnum (mVar 0)) (Tg.tup (.cons (.name 1) (.cons (.name 2) (.nil)))).m (sIf (mTst (mOp (cmpD .NotIn) (mVar 2) (mLst false [mC (.str "none"), mC (.str "lazy"), mC (.str "forced")]))) (sRet (mTup [mC (.str "strength"), mVar 1])) (sNx)))
  (sRet (mC (.non))))
def F_head_fault : FI := ⟨["value"], runBody 3 B_head_fault⟩
theorem find_pairs (P : D → Bool) (xs : List D) : (pairsOf xs).find? P = ((List.range xs.length).find? fun (i : Nat) => P (.tup [.int i, xs.getD i .non])).map fun (i : Nat) => D.tup [.int i, xs.getD i .non] := by
  unfold pairsOf
  rw [List.find?_map]
  rfl
def headBody : SM := sIf (mTst (mOp (cmpD .NotIn) (mVar 2) (mLst false [mC (.str "none"), mC (.str "lazy"), mC (.str "forced")]))) (sRet (mTup [mC (.str "strength"), mVar 1])) (sNx)
theorem headBody_ev {a : Option D} {x : D} {i : Nat} {st : Sto} (h : Any x) : headBody [a, some (.int (i : Nat)), some x] st = if (!isAny qStrengths x) = true then .rt (.tup [.str "strength", .int (i : Nat)]) st else .nx [a, some (.int (i : Nat)), some x] st := by
  have v2 : mVar 2 [a, some (.int (i : Nat)), some x] st = .ok x st := rfl
  have l0 : mLst false [mC (.str "none"), mC (.str "lazy"), mC (.str "forced")] [a, some (.int (i : Nat)), some x] st = .ok (.lst [.str "none", .str "lazy", .str "forced"]) st := rfl
  have test : mTst (mOp (cmpD .NotIn) (mVar 2) (mLst false [mC (.str "none"), mC (.str "lazy"), mC (.str "forced")])) [a, some (.int (i : Nat)), some x] st = .ok (!isAny qStrengths x) st := by
    simp only [mTst_ev, mOp_ev, v2, l0, bind_ok]
    rw [notin_ev h (.inl (show pd (.lst [.str "none", .str "lazy", .str "forced"]) = some (.list qStrengths) from rfl)) st_strengths]
    rfl
  unfold headBody
  rw [sIf_ev, test, s_ok]
  rfl
theorem fault_loop {xs : List D} {a : Option D} {b c : Option D} {st : Sto} (h : ∀ (j : Nat) (y : D), xs[j]? = some y → Any y) :
    (∃ i, firstOut qStrengths xs = some i ∧ walk (asg (Tg.tup (.cons (.name 1) (.cons (.name 2) (.nil)))).m headBody) (pairsOf xs) [a, b, c] st = .rt (.tup [.str "strength", .int (i : Nat)]) st) ∨ (firstOut qStrengths xs = none ∧ ∃ b' c', walk (asg (Tg.tup (.cons (.name 1) (.cons (.name 2) (.nil)))).m headBody) (pairsOf xs) [a, b, c] st = .nx [a, b', c'] st) := by
  have loop := walk_find (body := asg (Tg.tup (.cons (.name 1) (.cons (.name 2) (.nil)))).m headBody) (st := st) (fun d => match d with | .tup [_, x] => !isAny qStrengths x | _ => false) (fun d => match d with | .tup [i, _] => .tup [.str "strength", i] | d => d) (fun e => ∃ b c, e = [a, b, c]) (pairsOf xs) [a, b, c] (fun d hd e ⟨b, c, he⟩ => by
    obtain ⟨i, hi, rfl⟩ := List.mem_map.mp hd
    have lt := List.mem_range.mp hi
    have at_ : xs[i]? = some xs[i] := List.getElem?_eq_getElem lt
    have get_ : xs.getD i .non = xs[i] := by rw [List.getD_eq_getElem?_getD, at_]; rfl
    subst he
    have one : asg (Tg.tup (.cons (.name 1) (.cons (.name 2) (.nil)))).m headBody (.tup [.int (i : Nat), xs.getD i .non]) [a, b, c] st = headBody [a, some (.int (i : Nat)), some (xs.getD i .non)] st := rfl
    rw [one, get_, headBody_ev (h i _ at_)]
    exact ⟨fun q => if_pos q, fun q => ⟨_, if_neg (by rw [show (!isAny qStrengths xs[i]) = false from q]; exact Bool.false_ne_true), _, _, rfl⟩⟩) ⟨b, c, rfl⟩
  rw [find_pairs] at loop
  unfold firstOut
  rcases loop with ⟨x, f1, f2⟩ | ⟨f1, e', f2, b', c', rfl⟩
  · cases z : (List.range xs.length).find? fun (i : Nat) => !isAny qStrengths (xs.getD i .non) with
    | none =>
      exfalso
      rw [show ((List.range xs.length).find? fun (i : Nat) => (fun d : D => match d with | .tup [_, x] => !isAny qStrengths x | _ => false) (.tup [.int i, xs.getD i .non])) = none from z] at f1
      cases f1
    | some i =>
      rw [show ((List.range xs.length).find? fun (i : Nat) => (fun d : D => match d with | .tup [_, x] => !isAny qStrengths x | _ => false) (.tup [.int i, xs.getD i .non])) = some i from z] at f1
      cases f1
      exact .inl ⟨i, rfl, f2⟩
  · cases z : (List.range xs.length).find? fun (i : Nat) => !isAny qStrengths (xs.getD i .non) with
    | none => exact .inr ⟨rfl, b', c', f2⟩
    | some i =>
      exfalso
      rw [show ((List.range xs.length).find? fun (i : Nat) => (fun d : D => match d with | .tup [_, x] => !isAny qStrengths x | _ => false) (.tup [.int i, xs.getD i .non])) = some i from z] at f1
      cases f1
theorem form_test {x : D} {k : Int} {r : Sl} {st : Sto} (h : Any x) : tmOr (tmNot (mTru (mCall isiD [mVar 0, mC (.ty "tuple")]))) (mTst (mOp (cmpD .NotEq) (mCall lenD [mVar 0]) (mC (.int k)))) (some x :: r) st = .ok (!hasLen x k) st := by
  have v0 : mVar 0 (some x :: r) st = .ok x st := rfl
  have i0 : tmNot (mTru (mCall isiD [mVar 0, mC (.ty "tuple")])) (some x :: r) st = .ok (!isTupD x) st := by
    rw [tmNot_ev]
    unfold mTru
    rw [mCall_ev]
    simp only [mL_cons, mL_nil, v0, mC_ev, bind_ok]
    rw [isi_tuple h]
    rfl
  rw [tmOr_ev, i0, bind_ok]
  cases c : isTupD x with
  | false =>
    have : hasLen x k = false := by cases x <;> first | rfl | cases c
    rw [this]; rfl
  | true =>
    cases x with
    | tup xs =>
      rw [show (!true) = false from rfl, if_neg Bool.false_ne_true]
      simp only [mTst_ev, mOp_ev, mCall_ev, mL_cons, mL_nil, v0, mC_ev, bind_ok, len_tup, ne_int_ev]
      rfl
    | _ => cases c
theorem headErr_len {x : D} (c : hasLen x 3 = false) : headErr x = .str "form" := by
  cases x with
  | tup xs => exact if_neg (by rw [show (((xs.length : Nat) : Int) == 3) = false from c]; exact Bool.false_ne_true)
  | _ => rfl
theorem fault_run {x : D} {st : Sto} (h : Any x) : F_head_fault.run [x] st = .ok (headErr x) st := by
  rw [show F_head_fault.run = runBody 3 B_head_fault from rfl]
  apply run_rt
  show B_head_fault [some x, none, none] st = _
  unfold B_head_fault
  rw [sSeq_ev, sIf_ev, form_test h, s_ok]
  cases c : hasLen x 3 with
  | false =>
    rw [headErr_len c, show (!false) = true from rfl, if_pos rfl]
    rfl
  | true =>
    cases x with
    | tup xs =>
      have e : headErr (.tup xs) = errAt (firstOut qStrengths xs) := if_pos c
      rw [e, show (!true) = false from rfl, if_neg Bool.false_ne_true, sNx_ev, seq_nx, sSeq_ev]
      have loop := fault_loop (xs := xs) (a := some (.tup xs)) (b := none) (c := none) (st := st) (h.items rfl)
      rw [sFor_enum (d := .tup xs) (xs := xs) (st1 := st) rfl rfl]
      unfold headBody at loop
      rcases loop with ⟨i, f1, f2⟩ | ⟨f1, b', c', f2⟩
      · rw [f2, seq_rt, f1]; rfl
      · rw [f2, seq_nx, sRet_ev, mC_ev, s_ok, f1]; rfl
    | _ => cases c
end DX

/-! DxV: manners judged. -/
set_option linter.all false
set_option maxRecDepth 100000
set_option Elab.async false
namespace DX
open PySem PySem.Spec PyProof.Rows L2
/-- what is wrong with six items -/
def six (a b c t p s : D) : D := match firstOut qStrengths [a, b, c] with
  | some i => .tup [.str "strength", .int i]
  | none => if (!isAny qAscending t) = true then .str "thanks" else if (!isAny qEnds p) = true then .str "presumed" else if (!isBlD s) = true then .str "sent" else .non
def manErr (x : D) : D := match x with
  | .tup [a, b, c, t, p, s] => six a b c t p s
  | _ => .str "form"
theorem six_of {x : D} (c : hasLen x 6 = true) : ∃ a b d t p s, x = .tup [a, b, d, t, p, s] := by
  cases x with
  | tup xs =>
    have l6 : ((xs.length : Nat) : Int) = 6 := eq_of_beq c
    have l6' : xs.length = 6 := by omega
    match xs, l6' with
    | [a, b, d, t, p, s], _ => exact ⟨a, b, d, t, p, s, rfl⟩
  | _ => cases c
theorem manErr_len {x : D} (c : hasLen x 6 = false) : manErr x = .str "form" := by
  unfold manErr
  split
  · cases c
  · rfl
theorem any_tup {xs : List D} (h : ∀ x ∈ xs, Any x) : (∀ x ∈ xs, ∃ p, pd x = some p ∧ canE p = true ∧ p.depth ≤ 64) := fun x hx => by
  obtain ⟨p, e, ok⟩ := h x hx
  unfold okE at ok
  rw [Bool.and_eq_true, decide_eq_true_eq] at ok
  exact ⟨p, e, ok⟩
/-- the first three of six -/
theorem any_three {a b d t p s : D} (h : Any (.tup [a, b, d, t, p, s])) : Any (.tup [a, b, d]) := by
  obtain ⟨q, e, ok⟩ := h
  unfold pd pds pds pds pds pds pds pds at e
  unfold okE at ok
  rw [Bool.and_eq_true, decide_eq_true_eq] at ok
  cases e1 : pd a with
  | none => simp [e1] at e
  | some p1 =>
    cases e2 : pd b with
    | none => simp [e1, e2] at e
    | some p2 =>
      cases e3 : pd d with
      | none => simp [e1, e2, e3] at e
      | some p3 =>
        cases e4 : pd t with
        | none => simp [e1, e2, e3, e4] at e
        | some p4 =>
          cases e5 : pd p with
          | none => simp [e1, e2, e3, e4, e5] at e
          | some p5 =>
            cases e6 : pd s with
            | none => simp [e1, e2, e3, e4, e5, e6] at e
            | some p6 =>
              simp [e1, e2, e3, e4, e5, e6] at e
              subst e
              refine ⟨.tuple [p1, p2, p3], by unfold pd pds pds pds pds; simp [e1, e2, e3], ?_⟩
              obtain ⟨o1, o2⟩ := ok
              simp only [canE, canEs, Bool.and_eq_true] at o1
              simp only [PyData.depth, PyData.depthAll] at o2
              unfold okE
              simp only [canE, canEs, Bool.and_eq_true, decide_eq_true_eq, PyData.depth, PyData.depthAll]
              refine ⟨⟨o1.1, o1.2.1, o1.2.2.1, trivial⟩, ?_⟩
              exact decide_eq_true (by omega)
def B_manner_fault : SM :=
  sSeq (sIf (tmOr (tmNot (mTru (mCall isiD [mVar 0, mC (.ty "tuple")]))) (mTst (mOp (cmpD .NotEq) (mCall lenD [mVar 0]) (mC (.int 6))))) (sRet (mC (.str "form"))) (sNx))
  (sSeq (sIf (mTst (mOp (cmpD .IsNot) (mFn F_head_fault [0] [mSlice false (mVar 0) pmNone (pmSome (mC (.int 3)))] []) (mC (.non)))) (sRet (mFn F_head_fault [0] [mSlice false (mVar 0) pmNone (pmSome (mC (.int 3)))] [])) (sNx))
  (sSeq (sIf (mTst (mOp (cmpD .NotIn) (mOp ixD (mVar 0) (mC (.int 3))) (mLst false [mTup [], mTup [mC (.str "abort")], mTup [mC (.str "commit")], mTup [mC (.str "abort"), mC (.str "commit")]]))) (sRet (mC (.str "thanks"))) (sNx))
  (sSeq (sIf (mTst (mOp (cmpD .NotIn) (mOp ixD (mVar 0) (mC (.int 4))) (mLst false [mC (.str "abort"), mC (.str "commit")]))) (sRet (mC (.str "presumed"))) (sNx))
  (sRet (mIf (mTru (mCall isiD [mOp ixD (mVar 0) (mC (.int 5)), mC (.ty "bool")])) (mC (.non)) (mC (.str "sent")))))))
def F_manner_fault : FI := ⟨["value"], runBody 1 B_manner_fault⟩
theorem manner_fault_run {x : D} {st : Sto} (h : Any x) : F_manner_fault.run [x] st = .ok (manErr x) st := by
  rw [show F_manner_fault.run = runBody 1 B_manner_fault from rfl]
  apply run_rt
  show B_manner_fault [some x] st = _
  unfold B_manner_fault
  rw [sSeq_ev, sIf_ev, form_test h, s_ok]
  cases c : hasLen x 6 with
  | false =>
    rw [manErr_len c, show (!false) = true from rfl, if_pos rfl]
    rfl
  | true =>
    obtain ⟨a, b, d, t, p, s, rfl⟩ := six_of c
    have it := h.items rfl
    have at3 : Any t := it 3 t rfl
    have at4 : Any p := it 4 p rfl
    have at5 : Any s := it 5 s rfl
    have cut : mSlice false (mVar 0) pmNone (pmSome (mC (.int 3))) [some (.tup [a, b, d, t, p, s])] st = .ok (.tup [a, b, d]) st := rfl
    have f0 : mFn F_head_fault [0] [mSlice false (mVar 0) pmNone (pmSome (mC (.int 3)))] [] [some (.tup [a, b, d, t, p, s])] st = .ok (errAt (firstOut qStrengths [a, b, d])) st := by
      rw [ev_fn (st1 := st) (ds := [.tup [a, b, d]]) (as := [.tup [a, b, d]]) (by simp only [mL_cons, mL_nil, cut, bind_ok]) rfl rfl, fault_run (any_three h)]
      rfl
    have i3 : mOp ixD (mVar 0) (mC (.int 3)) [some (.tup [a, b, d, t, p, s])] st = .ok t st := rfl
    have i4 : mOp ixD (mVar 0) (mC (.int 4)) [some (.tup [a, b, d, t, p, s])] st = .ok p st := rfl
    have i5 : mOp ixD (mVar 0) (mC (.int 5)) [some (.tup [a, b, d, t, p, s])] st = .ok s st := rfl
    have l3 : mLst false [mTup [], mTup [mC (.str "abort")], mTup [mC (.str "commit")], mTup [mC (.str "abort"), mC (.str "commit")]] [some (.tup [a, b, d, t, p, s])] st = .ok (.lst [.tup [], .tup [.str "abort"], .tup [.str "commit"], .tup [.str "abort", .str "commit"]]) st := rfl
    have l4 : mLst false [mC (.str "abort"), mC (.str "commit")] [some (.tup [a, b, d, t, p, s])] st = .ok (.lst [.str "abort", .str "commit"]) st := rfl
    have t1 : mTst (mOp (cmpD .IsNot) (mFn F_head_fault [0] [mSlice false (mVar 0) pmNone (pmSome (mC (.int 3)))] []) (mC (.non))) [some (.tup [a, b, d, t, p, s])] st = .ok (!isNonB (errAt (firstOut qStrengths [a, b, d]))) st := by
      rw [mTst_ev, mOp_ev, f0, bind_ok, mC_ev, bind_ok, cmp_isnotnon]
      rfl
    have t2 : mTst (mOp (cmpD .NotIn) (mOp ixD (mVar 0) (mC (.int 3))) (mLst false [mTup [], mTup [mC (.str "abort")], mTup [mC (.str "commit")], mTup [mC (.str "abort"), mC (.str "commit")]])) [some (.tup [a, b, d, t, p, s])] st = .ok (!isAny qAscending t) st := by
      rw [mTst_ev, mOp_ev, i3, bind_ok, l3, bind_ok, notin_ev at3 (.inl (show pd (.lst [.tup [], .tup [.str "abort"], .tup [.str "commit"], .tup [.str "abort", .str "commit"]]) = some (.list qAscending) from rfl)) st_ascending]
      rfl
    have t3 : mTst (mOp (cmpD .NotIn) (mOp ixD (mVar 0) (mC (.int 4))) (mLst false [mC (.str "abort"), mC (.str "commit")])) [some (.tup [a, b, d, t, p, s])] st = .ok (!isAny qEnds p) st := by
      rw [mTst_ev, mOp_ev, i4, bind_ok, l4, bind_ok, notin_ev at4 (.inl (show pd (.lst [.str "abort", .str "commit"]) = some (.list qEnds) from rfl)) st_ends]
      rfl
    have t4 : mTru (mCall isiD [mOp ixD (mVar 0) (mC (.int 5)), mC (.ty "bool")]) [some (.tup [a, b, d, t, p, s])] st = .ok (isBlD s) st := by
      unfold mTru
      rw [mCall_ev]
      simp only [mL_cons, mL_nil, i5, mC_ev, bind_ok]
      rw [isi_bool at5]
      rfl
    rw [show (!true) = false from rfl, if_neg Bool.false_ne_true, sNx_ev, seq_nx, sSeq_ev, sIf_ev, t1, s_ok]
    show _ = RS.rt (six a b d t p s) st
    unfold six
    cases z : firstOut qStrengths [a, b, d] with
    | some i =>
      rw [show (!isNonB (errAt (some i))) = true from rfl, if_pos rfl, sRet_ev, f0, z]
      rfl
    | none =>
      rw [show (!isNonB (errAt none)) = false from rfl, if_neg Bool.false_ne_true, sNx_ev, seq_nx, sSeq_ev, sIf_ev, t2, s_ok]
      cases q : isAny qAscending t with
      | false => rfl
      | true =>
        rw [show (!true) = false from rfl, if_neg Bool.false_ne_true, sNx_ev, seq_nx, sSeq_ev, sIf_ev, t3, s_ok]
        cases q2 : isAny qEnds p with
        | false => rfl
        | true =>
          rw [show (!true) = false from rfl, if_neg Bool.false_ne_true, sNx_ev, seq_nx, sRet_ev, mIf_ev, t4, bind_ok]
          cases isBlD s <;> rfl
def B_manner_error : SM :=
  sSeq (sIf (tmNot (mTru (mFn F_is_tuple_of [0, 1] [mVar 0, mC (.int 6)] []))) (sRet (mC (.str "form"))) (sNx))
  (sSeq (sAsg (mFn F_strength_error [0] [mSlice false (mVar 0) pmNone (pmSome (mC (.int 3)))] []) (gmName 1))
  (sSeq (sIf (mTst (mOp (cmpD .IsNot) (mVar 1) (mC (.non)))) (sRet (mVar 1)) (sNx))
  (sSeq (sAsg (mSlice false (mVar 0) (pmSome (mC (.int 3))) pmNone) (Tg.tup (.cons (.name 2) (.cons (.name 3) (.cons (.name 4) (.nil))))).m)
  (sSeq (sIf (mTst (mOp (cmpD .NotIn) (mVar 2) (mC cAscending))) (sRet (mC (.str "thanks"))) (sNx))
  (sSeq (sIf (mTst (mOp (cmpD .NotIn) (mVar 3) (mC cEnds))) (sRet (mC (.str "presumed"))) (sNx))
  (sSeq (sIf (tmNot (mTru (mCall isiD [mVar 4, mC (.ty "bool")]))) (sRet (mC (.str "sent"))) (sNx))
  (sRet (mC (.non)))))))))
def F_manner_error : FI := ⟨["value"], runBody 5 B_manner_error⟩
theorem manner_run {x : D} {st : Sto} (h : Any x) : F_manner_error.run [x] st = .ok (manErr x) st := by
  rw [show F_manner_error.run = runBody 5 B_manner_error from rfl]
  apply run_rt
  show B_manner_error [some x, none, none, none, none] st = _
  unfold B_manner_error
  have t0 : tmNot (mTru (mFn F_is_tuple_of [0, 1] [mVar 0, mC (.int 6)] [])) [some x, none, none, none, none] st = .ok (!hasLen x 6) st := by
    have v0 : mVar 0 [some x, none, none, none, none] st = .ok x st := rfl
    rw [tmNot_ev]
    unfold mTru
    rw [ev_fn (st1 := st) (ds := [x, .int 6]) (as := [x, .int 6]) (by simp only [mL_cons, mL_nil, v0, mC_ev, bind_ok]) rfl rfl, is_tuple_run h]
    rfl
  rw [sSeq_ev, sIf_ev, t0, s_ok]
  cases c : hasLen x 6 with
  | false =>
    rw [manErr_len c, show (!false) = true from rfl, if_pos rfl]
    rfl
  | true =>
    obtain ⟨a, b, d, t, p, s, rfl⟩ := six_of c
    have it := h.items rfl
    have at3 : Any t := it 3 t rfl
    have at4 : Any p := it 4 p rfl
    have at5 : Any s := it 5 s rfl
    have cut : mSlice false (mVar 0) pmNone (pmSome (mC (.int 3))) [some (.tup [a, b, d, t, p, s]), none, none, none, none] st = .ok (.tup [a, b, d]) st := rfl
    have f0 : mFn F_strength_error [0] [mSlice false (mVar 0) pmNone (pmSome (mC (.int 3)))] [] [some (.tup [a, b, d, t, p, s]), none, none, none, none] st = .ok (errAt (firstOut qStrengths [a, b, d])) st := by
      rw [ev_fn (st1 := st) (ds := [.tup [a, b, d]]) (as := [.tup [a, b, d]]) (by simp only [mL_cons, mL_nil, cut, bind_ok]) rfl rfl, strength_run (any_three h) (show 3 ≤ 1000000 by decide)]
    rw [show (!true) = false from rfl, if_neg Bool.false_ne_true, sNx_ev, seq_nx, sSeq_ev, sAsg_ev, f0, s_ok, seq_nx]
    show _ = RS.rt (six a b d t p s) st
    unfold six
    cases z : firstOut qStrengths [a, b, d] with
    | some i => rfl
    | none =>
      show (sSeq (sIf (mTst (mOp (cmpD .IsNot) (mVar 1) (mC (.non)))) (sRet (mVar 1)) (sNx)) _) [some (.tup [a, b, d, t, p, s]), some .non, none, none, none] st = _
      have e1 : sIf (mTst (mOp (cmpD .IsNot) (mVar 1) (mC (.non)))) (sRet (mVar 1)) (sNx) [some (.tup [a, b, d, t, p, s]), some .non, none, none, none] st = .nx [some (.tup [a, b, d, t, p, s]), some .non, none, none, none] st := rfl
      have e2 : sAsg (mSlice false (mVar 0) (pmSome (mC (.int 3))) pmNone) (Tg.tup (.cons (.name 2) (.cons (.name 3) (.cons (.name 4) (.nil))))).m [some (.tup [a, b, d, t, p, s]), some .non, none, none, none] st = .nx [some (.tup [a, b, d, t, p, s]), some .non, some t, some p, some s] st := rfl
      have t2 : mTst (mOp (cmpD .NotIn) (mVar 2) (mC cAscending)) [some (.tup [a, b, d, t, p, s]), some .non, some t, some p, some s] st = .ok (!isAny qAscending t) st := by
        have v : mVar 2 [some (.tup [a, b, d, t, p, s]), some .non, some t, some p, some s] st = .ok t st := rfl
        rw [mTst_ev, mOp_ev, v, bind_ok, mC_ev, bind_ok, notin_ev at3 (.inr (show pd cAscending = some (.tuple qAscending) from rfl)) st_ascending]
        rfl
      have t3 : mTst (mOp (cmpD .NotIn) (mVar 3) (mC cEnds)) [some (.tup [a, b, d, t, p, s]), some .non, some t, some p, some s] st = .ok (!isAny qEnds p) st := by
        have v : mVar 3 [some (.tup [a, b, d, t, p, s]), some .non, some t, some p, some s] st = .ok p st := rfl
        rw [mTst_ev, mOp_ev, v, bind_ok, mC_ev, bind_ok, notin_ev at4 (.inr (show pd cEnds = some (.tuple qEnds) from rfl)) st_ends]
        rfl
      have t4 : tmNot (mTru (mCall isiD [mVar 4, mC (.ty "bool")])) [some (.tup [a, b, d, t, p, s]), some .non, some t, some p, some s] st = .ok (!isBlD s) st := by
        have v : mVar 4 [some (.tup [a, b, d, t, p, s]), some .non, some t, some p, some s] st = .ok s st := rfl
        rw [tmNot_ev]
        unfold mTru
        rw [mCall_ev]
        simp only [mL_cons, mL_nil, v, mC_ev, bind_ok]
        rw [isi_bool at5]
        rfl
      rw [sSeq_ev, e1, seq_nx, sSeq_ev, e2, seq_nx, sSeq_ev, sIf_ev, t2, s_ok]
      cases q : isAny qAscending t with
      | false => rfl
      | true =>
        rw [show (!true) = false from rfl, if_neg Bool.false_ne_true, sNx_ev, seq_nx, sSeq_ev, sIf_ev, t3, s_ok]
        cases q2 : isAny qEnds p with
        | false => rfl
        | true =>
          rw [show (!true) = false from rfl, if_neg Bool.false_ne_true, sNx_ev, seq_nx, sSeq_ev, sIf_ev, t4, s_ok]
          cases isBlD s <;> rfl
/-! ### what is told is small -/
theorem first_lt {qs : List PyData} {xs : List D} {i : Nat} (h : firstOut qs xs = some i) : i < xs.length := List.mem_range.mp (List.mem_of_find?_eq_some h)
theorem sh_errAt {xs : List D} (h : xs.length = 3) : Sh 40 2 (errAt (firstOut qStrengths xs)) := by
  cases z : firstOut qStrengths xs with
  | none => exact sh_of (by decide +kernel)
  | some i =>
    have lt := first_lt z
    rw [h] at lt
    match i, lt with
    | 0, _ => exact sh_of (by decide +kernel)
    | 1, _ => exact sh_of (by decide +kernel)
    | 2, _ => exact sh_of (by decide +kernel)
theorem sh_headErr (x : D) : Sh 40 2 (headErr x) := by
  cases c : hasLen x 3 with
  | false => rw [headErr_len c]; exact sh_of (by decide +kernel)
  | true =>
    cases x with
    | tup xs =>
      have l3 : ((xs.length : Nat) : Int) = 3 := eq_of_beq c
      rw [show headErr (.tup xs) = errAt (firstOut qStrengths xs) from if_pos c]
      exact sh_errAt (by omega)
    | _ => cases c
theorem sh_manErr (x : D) : Sh 40 2 (manErr x) := by
  cases c : hasLen x 6 with
  | false => rw [manErr_len c]; exact sh_of (by decide +kernel)
  | true =>
    obtain ⟨a, b, d, t, p, s, rfl⟩ := six_of c
    show Sh 40 2 (six a b d t p s)
    unfold six
    have e := sh_errAt (xs := [a, b, d]) rfl
    cases z : firstOut qStrengths [a, b, d] with
    | some i => rw [z] at e; exact e
    | none =>
      dsimp only
      split
      · exact sh_of (by decide +kernel)
      split
      · exact sh_of (by decide +kernel)
      split
      · exact sh_of (by decide +kernel)
      · exact sh_of (by decide +kernel)
end DX

/-! DxW: what is wanted behind a run (wR, wS): goals that walk through a text. -/
set_option linter.all false
set_option maxRecDepth 100000
set_option Elab.async false
namespace DX
open PySem PySem.Spec PyProof.Rows L2

abbrev XP := Str → List (Str × D) → Sto → Prop
/-- no own exception is wanted -/
def nX : XP := fun _ _ _ => False
def wR0 {α : Type} (r : R α) (Q : α → Sto → Prop) (X : XP) : Prop := match r with
  | .ok a st => Q a st
  | .exc c fs st => X c fs st
  | .no => False
structure Po where
  nx : Sl → Sto → Prop
  bk : Sl → Sto → Prop
  ct : Sl → Sto → Prop
  rt : D → Sto → Prop
  ex : Str → List (Str × D) → Sl → Sto → Prop
def wS0 (r : RS) (P : Po) : Prop := match r with
  | .nx e st => P.nx e st
  | .bk e st => P.bk e st
  | .ct e st => P.ct e st
  | .rt d st => P.rt d st
  | .exc c fs e st => P.ex c fs e st
  | .no => False
section
variable {α β : Type} {st : Sto} {e : Sl} {Q : α → Sto → Prop} {QD : D → Sto → Prop} {QB : Bool → Sto → Prop} {QL : List D → Sto → Prop} {X : XP} {P : Po}
theorem wR_ok0 (a : α) : wR0 (.ok a st) Q X = Q a st := rfl
theorem wR_exc0 (c : Str) (fs : List (Str × D)) : wR0 (.exc c fs st) Q X = X c fs st := rfl
theorem wR_bind0 (r : R β) (f : β → Sto → R α) : wR0 (r.bind f) Q X = wR0 r (fun a st => wR0 (f a st) Q X) X := by cases r <;> rfl
theorem wR_ite0 (c : Prop) [Decidable c] (a b : R α) : wR0 (if c then a else b) Q X = if c then wR0 a Q X else wR0 b Q X := by split <;> rfl
theorem wR_of0 (a : α) : wR0 (R.of (some a) st) Q X = Q a st := rfl
theorem wR_mono0 {Q' : α → Sto → Prop} {r : R α} (h : wR0 r Q' X) (f : ∀ a st, Q' a st → Q a st) : wR0 r Q X := by
  cases r with
  | ok a st => exact f a st h
  | exc c fs st => exact h
  | no => exact h
theorem wR_eq0 {r : R α} {a : α} {st' : Sto} (h : r = .ok a st') (q : Q a st') : wR0 r Q X := by rw [h]; exact q
theorem wR_get0 {r : R α} (h : wR0 r Q nX) : ∃ a st', r = .ok a st' ∧ Q a st' := by
  cases r with
  | ok a st => exact ⟨a, st, rfl, h⟩
  | exc c fs st => exact h.elim
  | no => exact h.elim
theorem wS_s0 (r : R β) (f : β → Sto → RS) : wS0 (r.s e f) P = wR0 r (fun a st => wS0 (f a st) P) (fun c fs st => P.ex c fs e st) := by cases r <;> rfl
theorem wS_seq0 (r : RS) (f : Sl → Sto → RS) : wS0 (r.seq f) P = wS0 r { P with nx := fun e st => wS0 (f e st) P } := by cases r <;> rfl
theorem wS_nx0 : wS0 (.nx e st) P = P.nx e st := rfl
theorem wS_bk0 : wS0 (.bk e st) P = P.bk e st := rfl
theorem wS_ct0 : wS0 (.ct e st) P = P.ct e st := rfl
theorem wS_rt0 (d : D) : wS0 (.rt d st) P = P.rt d st := rfl
theorem wS_ite0 (c : Prop) [Decidable c] (a b : RS) : wS0 (if c then a else b) P = if c then wS0 a P else wS0 b P := by split <;> rfl
theorem wS_mono0 {P' : Po} {r : RS} (h : wS0 r P') (h1 : ∀ e st, P'.nx e st → P.nx e st) (h2 : ∀ e st, P'.bk e st → P.bk e st) (h3 : ∀ e st, P'.ct e st → P.ct e st) (h4 : ∀ d st, P'.rt d st → P.rt d st) (h5 : ∀ c fs e st, P'.ex c fs e st → P.ex c fs e st) : wS0 r P := by
  cases r with
  | nx e st => exact h1 _ _ h
  | bk e st => exact h2 _ _ h
  | ct e st => exact h3 _ _ h
  | rt d st => exact h4 _ _ h
  | exc c fs e st => exact h5 _ _ _ _ h
  | no => exact h
/-! expressions -/
theorem w_C0 (d : D) : wR0 (mC d e st) QD X = QD d st := rfl
def vGet (o : Option (Option D)) (QD : D → Sto → Prop) (st : Sto) : Prop := match o with
  | some (some d) => QD d st
  | _ => False
theorem w_Var0 (i : Nat) : wR0 (mVar i e st) QD X = vGet e[i]? QD st := by
  unfold mVar vGet
  cases e[i]? with
  | none => rfl
  | some o => cases o <;> rfl
theorem vGet_some (d : D) : vGet (some (some d)) QD st = QD d st := rfl
theorem w_Lnil0 : wR0 (mL [] e st) QL X = QL [] st := rfl
theorem w_Lcons0 (m : EM) (ms : List EM) : wR0 (mL (m :: ms) e st) QL X = wR0 (m e st) (fun d st1 => wR0 (mL ms e st1) (fun ds st2 => QL (d :: ds) st2) X) X := by
  show wR0 ((m e st).bind _) QL X = _
  rw [wR_bind0]
  congr 1
  funext d st1
  rw [wR_bind0]
  rfl
theorem w_Op0 (f : D → D → Sto → R D) (a b : EM) : wR0 (mOp f a b e st) QD X = wR0 (a e st) (fun x st1 => wR0 (b e st1) (fun y st2 => wR0 (f x y st2) QD X) X) X := by
  show wR0 ((a e st).bind _) QD X = _
  rw [wR_bind0]
  congr 1
  funext d st1
  rw [wR_bind0]
theorem w_Call0 (f : List D → Sto → R D) (ms : List EM) : wR0 (mCall f ms e st) QD X = wR0 (mL ms e st) (fun ds st1 => wR0 (f ds st1) QD X) X := wR_bind0 _ _
theorem w_Tup0 (ms : List EM) : wR0 (mTup ms e st) QD X = wR0 (mL ms e st) (fun ds st1 => if fits ds = true then QD (.tup ds) st1 else False) X := by
  show wR0 ((mL ms e st).bind _) QD X = _
  rw [wR_bind0]
  congr 1
  funext d st1
  by_cases h : fits d = true
  · rw [if_pos h, if_pos h]; rfl
  · rw [if_neg h, if_neg h]; rfl
theorem w_Lst0 (ms : List EM) : wR0 (mLst false ms e st) QD X = wR0 (mL ms e st) (fun ds st1 => if fits ds = true then QD (.lst ds) st1 else False) X := by
  show wR0 ((mL ms e st).bind _) QD X = _
  rw [wR_bind0]
  congr 1
  funext d st1
  by_cases h : fits d = true
  · rw [if_pos h, if_pos h]; rfl
  · rw [if_neg h, if_neg h]; rfl
theorem w_LstT0 (ms : List EM) : wR0 (mLst true ms e st) QD X = wR0 (mL ms e st) (fun ds st1 => if fits ds = true then QD (.loc st1.length) (st1 ++ [.lst ds]) else False) X := by
  show wR0 ((mL ms e st).bind _) QD X = _
  rw [wR_bind0]
  congr 1
  funext d st1
  by_cases h : fits d = true
  · rw [if_pos h, if_pos h]; rfl
  · rw [if_neg h, if_neg h]; rfl
theorem fits_nil : fits [] = true := rfl
theorem fits_small {ds : List D} (h : ds.length ≤ 1000) : fits ds = true := by
  unfold fits
  exact decide_eq_true (Nat.le_trans h (by decide))
def callF (F : FI) (as : List D) (st : Sto) : R D := if as.length = F.ps.length then F.run as st else .no
theorem w_Fn0 (F : FI) (perm : List Nat) (ms ks : List EM) : wR0 (mFn F perm ms ks e st) QD X = wR0 (mL ms e st) (fun ds st1 => wR0 (mL ks e st1) (fun zs st2 => wR0 (callF F (pick perm (ds ++ zs)) st2) QD X) X) X := by
  show wR0 ((mL ms e st).bind _) QD X = _
  rw [wR_bind0]
  congr 1
  funext d st1
  rw [wR_bind0]
  rfl
theorem callF_ok {F : FI} {as : List D} (h : as.length = F.ps.length) : callF F as st = F.run as st := if_pos h
theorem w_If0 (c : TM) (a b : EM) : wR0 (mIf c a b e st) QD X = wR0 (c e st) (fun k st1 => if k = true then wR0 (a e st1) QD X else wR0 (b e st1) QD X) X := by
  show wR0 ((c e st).bind _) QD X = _
  rw [wR_bind0]
  congr 1
  funext k st1
  exact wR_ite0 _ _ _
def tGet (d : D) (QB : Bool → Sto → Prop) (st : Sto) : Prop := match d with
  | .bl k => QB k st
  | _ => False
theorem tGet_bl (k : Bool) : tGet (.bl k) QB st = QB k st := rfl
theorem w_Tst0 (a : EM) : wR0 (mTst a e st) QB X = wR0 (a e st) (fun d st1 => tGet d QB st1) X := by
  show wR0 ((a e st).bind _) QB X = _
  rw [wR_bind0]
  congr 1
  funext d st1
  cases d <;> rfl
def uGet (o : Option Bool) (QB : Bool → Sto → Prop) (st : Sto) : Prop := match o with
  | some k => QB k st
  | none => False
theorem uGet_some (k : Bool) : uGet (some k) QB st = QB k st := rfl
theorem w_Tru0 (a : EM) : wR0 (mTru a e st) QB X = wR0 (a e st) (fun d st1 => uGet (truD st1 d) QB st1) X := by
  show wR0 ((a e st).bind _) QB X = _
  rw [wR_bind0]
  congr 1
  funext d st1
  cases truD st1 d <;> rfl
theorem w_tAnd0 (a b : TM) : wR0 (tmAnd a b e st) QB X = wR0 (a e st) (fun k st1 => if k = true then wR0 (b e st1) QB X else QB false st1) X := by
  show wR0 ((a e st).bind _) QB X = _
  rw [wR_bind0]
  congr 1
  funext k st1
  cases k <;> rfl
theorem w_tOr0 (a b : TM) : wR0 (tmOr a b e st) QB X = wR0 (a e st) (fun k st1 => if k = true then QB true st1 else wR0 (b e st1) QB X) X := by
  show wR0 ((a e st).bind _) QB X = _
  rw [wR_bind0]
  congr 1
  funext k st1
  cases k <;> rfl
theorem w_tNot0 (a : TM) : wR0 (tmNot a e st) QB X = wR0 (a e st) (fun k st1 => QB (!k) st1) X := by
  show wR0 ((a e st).bind _) QB X = _
  rw [wR_bind0]
  rfl
theorem w_And0 (a b : EM) : wR0 (mAnd a b e st) QD X = wR0 (a e st) (fun d st1 => uGet (truD st1 d) (fun k st2 => if k = true then wR0 (b e st2) QD X else QD d st2) st1) X := by
  show wR0 ((a e st).bind _) QD X = _
  rw [wR_bind0]
  congr 1
  funext d st1
  cases h : truD st1 d with
  | none => rfl
  | some k => cases k <;> rfl
theorem w_Or0 (a b : EM) : wR0 (mOr a b e st) QD X = wR0 (a e st) (fun d st1 => uGet (truD st1 d) (fun k st2 => if k = true then QD d st2 else wR0 (b e st2) QD X) st1) X := by
  show wR0 ((a e st).bind _) QD X = _
  rw [wR_bind0]
  congr 1
  funext d st1
  cases h : truD st1 d with
  | none => rfl
  | some k => cases k <;> rfl
theorem w_Not0 (a : EM) : wR0 (mNot a e st) QD X = wR0 (a e st) (fun d st1 => uGet (truD st1 d) (fun k st2 => QD (.bl (!k)) st2) st1) X := by
  show wR0 ((a e st).bind _) QD X = _
  rw [wR_bind0]
  congr 1
  funext d st1
  cases h : truD st1 d <;> rfl
theorem w_Slice0 (mt : Bool) (a : EM) (lo hi : PM) : wR0 (mSlice mt a lo hi e st) QD X = wR0 (a e st) (fun x st1 => wR0 (lo e st1) (fun l st2 => wR0 (hi e st2) (fun u st3 => wR0 (sliceD mt x l u st3) QD X) X) X) X := by
  show wR0 ((a e st).bind _) QD X = _
  rw [wR_bind0]
  congr 1
  funext d st1
  rw [wR_bind0]
  congr 1
  funext d st1
  rw [wR_bind0]
theorem w_pN0 {QP : Option Int → Sto → Prop} : wR0 (pmNone e st) QP X = QP none st := rfl
def iGet (d : D) (QI : Int → Sto → Prop) (st : Sto) : Prop := match d with
  | .int k => QI k st
  | _ => False
theorem iGet_int (k : Int) (QI : Int → Sto → Prop) : iGet (.int k) QI st = QI k st := rfl
theorem w_pS0 {QP : Option Int → Sto → Prop} (a : EM) : wR0 (pmSome a e st) QP X = wR0 (a e st) (fun d st1 => iGet d (fun i st2 => QP (some i) st2) st1) X := by
  show wR0 ((a e st).bind _) QP X = _
  rw [wR_bind0]
  congr 1
  funext d st1
  cases d <;> rfl
theorem w_Neg0 (a : EM) : wR0 (mNeg a e st) QD X = wR0 (a e st) (fun d st1 => iGet d (fun i st2 => QD (.int (-i)) st2) st1) X := by
  show wR0 ((a e st).bind _) QD X = _
  rw [wR_bind0]
  congr 1
  funext d st1
  cases d <;> rfl
theorem w_Back0 (mt : Bool) (a : EM) : wR0 (mBack mt a e st) QD X = wR0 (a e st) (fun d st1 => wR0 (backD mt d st1) QD X) X := wR_bind0 _ _
theorem w_EdF0 : wR0 (mEd false e st) QD X = QD .edct st := rfl
theorem w_EdT0 : wR0 (mEd true e st) QD X = QD (.loc st.length) (st ++ [.dct []]) := rfl
/-! statements -/
theorem w_Seq0 (a b : SM) : wS0 (sSeq a b e st) P = wS0 (a e st) { P with nx := fun e st => wS0 (b e st) P } := wS_seq0 _ _
theorem w_sNx0 : wS0 (sNx e st) P = P.nx e st := rfl
theorem w_Expr0 (a : EM) : wS0 (sExpr a e st) P = wR0 (a e st) (fun _ st1 => P.nx e st1) (fun c fs st => P.ex c fs e st) := wS_s0 _ _
theorem w_Ret0 (a : EM) : wS0 (sRet a e st) P = wR0 (a e st) (fun d st1 => P.rt d st1) (fun c fs st => P.ex c fs e st) := wS_s0 _ _
theorem w_sIf0 (c : TM) (a b : SM) : wS0 (sIf c a b e st) P = wR0 (c e st) (fun k st1 => if k = true then wS0 (a e st1) P else wS0 (b e st1) P) (fun c fs st => P.ex c fs e st) := by
  show wS0 ((c e st).s e _) P = _
  rw [wS_s0]
  congr 1
  funext k st1
  exact wS_ite0 _ _ _
def gGet (o : Option Sl) (N : Sl → Sto → Prop) (st : Sto) : Prop := match o with
  | some e => N e st
  | none => False
theorem gGet_some (N : Sl → Sto → Prop) : gGet (some e) N st = N e st := rfl
theorem w_Asg0 (a : EM) (g : GM) : wS0 (sAsg a g e st) P = wR0 (a e st) (fun d st1 => gGet (g d e) P.nx st1) (fun c fs st => P.ex c fs e st) := by
  show wS0 ((a e st).s e _) P = _
  rw [wS_s0]
  congr 1
  funext d st1
  cases g d e <;> rfl
theorem g_name (i : Nat) (d : D) : gmName i d e = some (e.set i (some d)) := rfl
theorem w_Par0 (i j : Nat) (a b : EM) : wS0 (sPar i j a b e st) P = wR0 (a e st) (fun x st1 => wR0 (b e st1) (fun y st2 => P.nx ((e.set i (some x)).set j (some y)) st2) (fun c fs st => P.ex c fs e st)) (fun c fs st => P.ex c fs e st) := by
  show wS0 ((mL [a, b] e st).s e _) P = _
  rw [wS_s0, w_Lcons0]
  congr 1
  funext x st1
  rw [w_Lcons0]
  rfl
theorem w_Par30 (i j l : Nat) (a b c : EM) : wS0 (sPar3 i j l a b c e st) P = wR0 (a e st) (fun x st1 => wR0 (b e st1) (fun y st2 => wR0 (c e st2) (fun z st3 => P.nx (((e.set i (some x)).set j (some y)).set l (some z)) st3) (fun c fs st => P.ex c fs e st)) (fun c fs st => P.ex c fs e st)) (fun c fs st => P.ex c fs e st) := by
  show wS0 ((mL [a, b, c] e st).s e _) P = _
  rw [wS_s0, w_Lcons0]
  congr 1
  funext x st1
  rw [w_Lcons0]
  congr 1
  funext y st2
  rw [w_Lcons0]
  rfl
/-- a def's run by its body -/
def retP (QD : D → Sto → Prop) (X : XP) : Po := ⟨fun _ st => QD .non st, fun _ _ => False, fun _ _ => False, QD, fun c fs _ st => X c fs st⟩
theorem w_body0 (n : Nat) (body : SM) (ds : List D) : wR0 (runBody n body ds st) QD X = wS0 (body (ds.map some ++ List.replicate (n - ds.length) none) st) (retP QD X) := by
  unfold runBody
  cases body (ds.map some ++ List.replicate (n - ds.length) none) st <;> rfl
theorem retP_nx : (retP QD X).nx e st = QD .non st := rfl
theorem retP_rt (d : D) : (retP QD X).rt d st = QD d st := rfl
theorem retP_ex (c : Str) (fs : List (Str × D)) : (retP QD X).ex c fs e st = X c fs st := rfl
end

/-! the same, closed: nothing is unfolded by chance -/
structure wR {α : Type} (r : R α) (Q : α → Sto → Prop) (X : XP) : Prop where
  h : wR0 r Q X
structure wS (r : RS) (P : Po) : Prop where
  h : wS0 r P
theorem wR_iff {α : Type} (r : R α) (Q : α → Sto → Prop) (X : XP) : wR r Q X = wR0 r Q X := propext ⟨fun z => z.h, fun z => ⟨z⟩⟩
theorem wS_iff (r : RS) (P : Po) : wS r P = wS0 r P := propext ⟨fun z => z.h, fun z => ⟨z⟩⟩
section
variable {α β : Type} {st : Sto} {e : Sl} {Q : α → Sto → Prop} {QD : D → Sto → Prop} {QB : Bool → Sto → Prop} {QL : List D → Sto → Prop} {X : XP} {P : Po}
theorem wR_mono {Q' : α → Sto → Prop} {r : R α} (h : wR r Q' X) (f : ∀ a st, Q' a st → Q a st) : wR r Q X := ⟨wR_mono0 h.h f⟩
theorem wR_eq {r : R α} {a : α} {st' : Sto} (h : r = .ok a st') (q : Q a st') : wR r Q X := ⟨wR_eq0 h q⟩
theorem wR_get {r : R α} (h : wR r Q nX) : ∃ a st', r = .ok a st' ∧ Q a st' := wR_get0 h.h
theorem wS_mono {P' : Po} {r : RS} (h : wS r P') (h1 : ∀ e st, P'.nx e st → P.nx e st) (h2 : ∀ e st, P'.bk e st → P.bk e st) (h3 : ∀ e st, P'.ct e st → P.ct e st) (h4 : ∀ d st, P'.rt d st → P.rt d st) (h5 : ∀ c fs e st, P'.ex c fs e st → P.ex c fs e st) : wS r P := ⟨wS_mono0 h.h h1 h2 h3 h4 h5⟩
theorem wR_ok (a : α) : wR (.ok a st) Q X = Q a st := by simp only [wR_iff, wS_iff]; first | exact wR_ok0 | exact wR_ok0 _ | exact wR_ok0 _ _ | exact wR_ok0 _ _ _ | exact wR_ok0 _ _ _ _ | exact wR_ok0 _ _ _ _ _
theorem wR_exc (c : Str) (fs : List (Str × D)) : wR (.exc c fs st) Q X = X c fs st := by simp only [wR_iff, wS_iff]; first | exact wR_exc0 | exact wR_exc0 _ | exact wR_exc0 _ _ | exact wR_exc0 _ _ _ | exact wR_exc0 _ _ _ _ | exact wR_exc0 _ _ _ _ _
theorem wR_bind (r : R β) (f : β → Sto → R α) : wR (r.bind f) Q X = wR r (fun a st => wR (f a st) Q X) X := by simp only [wR_iff, wS_iff]; first | exact wR_bind0 | exact wR_bind0 _ | exact wR_bind0 _ _ | exact wR_bind0 _ _ _ | exact wR_bind0 _ _ _ _ | exact wR_bind0 _ _ _ _ _
theorem wR_ite (c : Prop) [Decidable c] (a b : R α) : wR (if c then a else b) Q X = if c then wR a Q X else wR b Q X := by simp only [wR_iff, wS_iff]; first | exact wR_ite0 | exact wR_ite0 _ | exact wR_ite0 _ _ | exact wR_ite0 _ _ _ | exact wR_ite0 _ _ _ _ | exact wR_ite0 _ _ _ _ _
theorem wR_of (a : α) : wR (R.of (some a) st) Q X = Q a st := by simp only [wR_iff, wS_iff]; first | exact wR_of0 | exact wR_of0 _ | exact wR_of0 _ _ | exact wR_of0 _ _ _ | exact wR_of0 _ _ _ _ | exact wR_of0 _ _ _ _ _
theorem wS_s (r : R β) (f : β → Sto → RS) : wS (r.s e f) P = wR r (fun a st => wS (f a st) P) (fun c fs st => P.ex c fs e st) := by simp only [wR_iff, wS_iff]; first | exact wS_s0 | exact wS_s0 _ | exact wS_s0 _ _ | exact wS_s0 _ _ _ | exact wS_s0 _ _ _ _ | exact wS_s0 _ _ _ _ _
theorem wS_seq (r : RS) (f : Sl → Sto → RS) : wS (r.seq f) P = wS r { P with nx := fun e st => wS (f e st) P } := by simp only [wR_iff, wS_iff]; first | exact wS_seq0 | exact wS_seq0 _ | exact wS_seq0 _ _ | exact wS_seq0 _ _ _ | exact wS_seq0 _ _ _ _ | exact wS_seq0 _ _ _ _ _
theorem wS_nx : wS (.nx e st) P = P.nx e st := by simp only [wR_iff, wS_iff]; first | exact wS_nx0 | exact wS_nx0 _ | exact wS_nx0 _ _ | exact wS_nx0 _ _ _ | exact wS_nx0 _ _ _ _ | exact wS_nx0 _ _ _ _ _
theorem wS_bk : wS (.bk e st) P = P.bk e st := by simp only [wR_iff, wS_iff]; first | exact wS_bk0 | exact wS_bk0 _ | exact wS_bk0 _ _ | exact wS_bk0 _ _ _ | exact wS_bk0 _ _ _ _ | exact wS_bk0 _ _ _ _ _
theorem wS_ct : wS (.ct e st) P = P.ct e st := by simp only [wR_iff, wS_iff]; first | exact wS_ct0 | exact wS_ct0 _ | exact wS_ct0 _ _ | exact wS_ct0 _ _ _ | exact wS_ct0 _ _ _ _ | exact wS_ct0 _ _ _ _ _
theorem wS_rt (d : D) : wS (.rt d st) P = P.rt d st := by simp only [wR_iff, wS_iff]; first | exact wS_rt0 | exact wS_rt0 _ | exact wS_rt0 _ _ | exact wS_rt0 _ _ _ | exact wS_rt0 _ _ _ _ | exact wS_rt0 _ _ _ _ _
theorem wS_ite (c : Prop) [Decidable c] (a b : RS) : wS (if c then a else b) P = if c then wS a P else wS b P := by simp only [wR_iff, wS_iff]; first | exact wS_ite0 | exact wS_ite0 _ | exact wS_ite0 _ _ | exact wS_ite0 _ _ _ | exact wS_ite0 _ _ _ _ | exact wS_ite0 _ _ _ _ _
theorem w_C (d : D) : wR (mC d e st) QD X = QD d st := by simp only [wR_iff, wS_iff]; first | exact w_C0 | exact w_C0 _ | exact w_C0 _ _ | exact w_C0 _ _ _ | exact w_C0 _ _ _ _ | exact w_C0 _ _ _ _ _
theorem w_Var (i : Nat) : wR (mVar i e st) QD X = vGet e[i]? QD st := by simp only [wR_iff, wS_iff]; first | exact w_Var0 | exact w_Var0 _ | exact w_Var0 _ _ | exact w_Var0 _ _ _ | exact w_Var0 _ _ _ _ | exact w_Var0 _ _ _ _ _
theorem w_Lnil : wR (mL [] e st) QL X = QL [] st := by simp only [wR_iff, wS_iff]; first | exact w_Lnil0 | exact w_Lnil0 _ | exact w_Lnil0 _ _ | exact w_Lnil0 _ _ _ | exact w_Lnil0 _ _ _ _ | exact w_Lnil0 _ _ _ _ _
theorem w_Lcons (m : EM) (ms : List EM) : wR (mL (m :: ms) e st) QL X = wR (m e st) (fun d st1 => wR (mL ms e st1) (fun ds st2 => QL (d :: ds) st2) X) X := by simp only [wR_iff, wS_iff]; first | exact w_Lcons0 | exact w_Lcons0 _ | exact w_Lcons0 _ _ | exact w_Lcons0 _ _ _ | exact w_Lcons0 _ _ _ _ | exact w_Lcons0 _ _ _ _ _
theorem w_Op (f : D → D → Sto → R D) (a b : EM) : wR (mOp f a b e st) QD X = wR (a e st) (fun x st1 => wR (b e st1) (fun y st2 => wR (f x y st2) QD X) X) X := by simp only [wR_iff, wS_iff]; first | exact w_Op0 | exact w_Op0 _ | exact w_Op0 _ _ | exact w_Op0 _ _ _ | exact w_Op0 _ _ _ _ | exact w_Op0 _ _ _ _ _
theorem w_Call (f : List D → Sto → R D) (ms : List EM) : wR (mCall f ms e st) QD X = wR (mL ms e st) (fun ds st1 => wR (f ds st1) QD X) X := by simp only [wR_iff, wS_iff]; first | exact w_Call0 | exact w_Call0 _ | exact w_Call0 _ _ | exact w_Call0 _ _ _ | exact w_Call0 _ _ _ _ | exact w_Call0 _ _ _ _ _
theorem w_Tup (ms : List EM) : wR (mTup ms e st) QD X = wR (mL ms e st) (fun ds st1 => if fits ds = true then QD (.tup ds) st1 else False) X := by simp only [wR_iff, wS_iff]; first | exact w_Tup0 | exact w_Tup0 _ | exact w_Tup0 _ _ | exact w_Tup0 _ _ _ | exact w_Tup0 _ _ _ _ | exact w_Tup0 _ _ _ _ _
theorem w_Lst (ms : List EM) : wR (mLst false ms e st) QD X = wR (mL ms e st) (fun ds st1 => if fits ds = true then QD (.lst ds) st1 else False) X := by simp only [wR_iff, wS_iff]; first | exact w_Lst0 | exact w_Lst0 _ | exact w_Lst0 _ _ | exact w_Lst0 _ _ _ | exact w_Lst0 _ _ _ _ | exact w_Lst0 _ _ _ _ _
theorem w_LstT (ms : List EM) : wR (mLst true ms e st) QD X = wR (mL ms e st) (fun ds st1 => if fits ds = true then QD (.loc st1.length) (st1 ++ [.lst ds]) else False) X := by simp only [wR_iff, wS_iff]; first | exact w_LstT0 | exact w_LstT0 _ | exact w_LstT0 _ _ | exact w_LstT0 _ _ _ | exact w_LstT0 _ _ _ _ | exact w_LstT0 _ _ _ _ _
theorem w_Fn (F : FI) (perm : List Nat) (ms ks : List EM) : wR (mFn F perm ms ks e st) QD X = wR (mL ms e st) (fun ds st1 => wR (mL ks e st1) (fun zs st2 => wR (callF F (pick perm (ds ++ zs)) st2) QD X) X) X := by simp only [wR_iff, wS_iff]; first | exact w_Fn0 | exact w_Fn0 _ | exact w_Fn0 _ _ | exact w_Fn0 _ _ _ | exact w_Fn0 _ _ _ _ | exact w_Fn0 _ _ _ _ _
theorem w_If (c : TM) (a b : EM) : wR (mIf c a b e st) QD X = wR (c e st) (fun k st1 => if k = true then wR (a e st1) QD X else wR (b e st1) QD X) X := by simp only [wR_iff, wS_iff]; first | exact w_If0 | exact w_If0 _ | exact w_If0 _ _ | exact w_If0 _ _ _ | exact w_If0 _ _ _ _ | exact w_If0 _ _ _ _ _
theorem w_Tst (a : EM) : wR (mTst a e st) QB X = wR (a e st) (fun d st1 => tGet d QB st1) X := by simp only [wR_iff, wS_iff]; first | exact w_Tst0 | exact w_Tst0 _ | exact w_Tst0 _ _ | exact w_Tst0 _ _ _ | exact w_Tst0 _ _ _ _ | exact w_Tst0 _ _ _ _ _
theorem w_Tru (a : EM) : wR (mTru a e st) QB X = wR (a e st) (fun d st1 => uGet (truD st1 d) QB st1) X := by simp only [wR_iff, wS_iff]; first | exact w_Tru0 | exact w_Tru0 _ | exact w_Tru0 _ _ | exact w_Tru0 _ _ _ | exact w_Tru0 _ _ _ _ | exact w_Tru0 _ _ _ _ _
theorem w_tAnd (a b : TM) : wR (tmAnd a b e st) QB X = wR (a e st) (fun k st1 => if k = true then wR (b e st1) QB X else QB false st1) X := by simp only [wR_iff, wS_iff]; first | exact w_tAnd0 | exact w_tAnd0 _ | exact w_tAnd0 _ _ | exact w_tAnd0 _ _ _ | exact w_tAnd0 _ _ _ _ | exact w_tAnd0 _ _ _ _ _
theorem w_tOr (a b : TM) : wR (tmOr a b e st) QB X = wR (a e st) (fun k st1 => if k = true then QB true st1 else wR (b e st1) QB X) X := by simp only [wR_iff, wS_iff]; first | exact w_tOr0 | exact w_tOr0 _ | exact w_tOr0 _ _ | exact w_tOr0 _ _ _ | exact w_tOr0 _ _ _ _ | exact w_tOr0 _ _ _ _ _
theorem w_tNot (a : TM) : wR (tmNot a e st) QB X = wR (a e st) (fun k st1 => QB (!k) st1) X := by simp only [wR_iff, wS_iff]; first | exact w_tNot0 | exact w_tNot0 _ | exact w_tNot0 _ _ | exact w_tNot0 _ _ _ | exact w_tNot0 _ _ _ _ | exact w_tNot0 _ _ _ _ _
theorem w_And (a b : EM) : wR (mAnd a b e st) QD X = wR (a e st) (fun d st1 => uGet (truD st1 d) (fun k st2 => if k = true then wR (b e st2) QD X else QD d st2) st1) X := by simp only [wR_iff, wS_iff]; first | exact w_And0 | exact w_And0 _ | exact w_And0 _ _ | exact w_And0 _ _ _ | exact w_And0 _ _ _ _ | exact w_And0 _ _ _ _ _
theorem w_Or (a b : EM) : wR (mOr a b e st) QD X = wR (a e st) (fun d st1 => uGet (truD st1 d) (fun k st2 => if k = true then QD d st2 else wR (b e st2) QD X) st1) X := by simp only [wR_iff, wS_iff]; first | exact w_Or0 | exact w_Or0 _ | exact w_Or0 _ _ | exact w_Or0 _ _ _ | exact w_Or0 _ _ _ _ | exact w_Or0 _ _ _ _ _
theorem w_Not (a : EM) : wR (mNot a e st) QD X = wR (a e st) (fun d st1 => uGet (truD st1 d) (fun k st2 => QD (.bl (!k)) st2) st1) X := by simp only [wR_iff, wS_iff]; first | exact w_Not0 | exact w_Not0 _ | exact w_Not0 _ _ | exact w_Not0 _ _ _ | exact w_Not0 _ _ _ _ | exact w_Not0 _ _ _ _ _
theorem w_Slice (mt : Bool) (a : EM) (lo hi : PM) : wR (mSlice mt a lo hi e st) QD X = wR (a e st) (fun x st1 => wR (lo e st1) (fun l st2 => wR (hi e st2) (fun u st3 => wR (sliceD mt x l u st3) QD X) X) X) X := by simp only [wR_iff, wS_iff]; first | exact w_Slice0 | exact w_Slice0 _ | exact w_Slice0 _ _ | exact w_Slice0 _ _ _ | exact w_Slice0 _ _ _ _ | exact w_Slice0 _ _ _ _ _
theorem w_pN {QP : Option Int → Sto → Prop} : wR (pmNone e st) QP X = QP none st := by simp only [wR_iff, wS_iff]; first | exact w_pN0 | exact w_pN0 _ | exact w_pN0 _ _ | exact w_pN0 _ _ _ | exact w_pN0 _ _ _ _ | exact w_pN0 _ _ _ _ _
theorem w_pS {QP : Option Int → Sto → Prop} (a : EM) : wR (pmSome a e st) QP X = wR (a e st) (fun d st1 => iGet d (fun i st2 => QP (some i) st2) st1) X := by simp only [wR_iff, wS_iff]; first | exact w_pS0 | exact w_pS0 _ | exact w_pS0 _ _ | exact w_pS0 _ _ _ | exact w_pS0 _ _ _ _ | exact w_pS0 _ _ _ _ _
theorem w_Neg (a : EM) : wR (mNeg a e st) QD X = wR (a e st) (fun d st1 => iGet d (fun i st2 => QD (.int (-i)) st2) st1) X := by simp only [wR_iff, wS_iff]; first | exact w_Neg0 | exact w_Neg0 _ | exact w_Neg0 _ _ | exact w_Neg0 _ _ _ | exact w_Neg0 _ _ _ _ | exact w_Neg0 _ _ _ _ _
theorem w_Back (mt : Bool) (a : EM) : wR (mBack mt a e st) QD X = wR (a e st) (fun d st1 => wR (backD mt d st1) QD X) X := by simp only [wR_iff, wS_iff]; first | exact w_Back0 | exact w_Back0 _ | exact w_Back0 _ _ | exact w_Back0 _ _ _ | exact w_Back0 _ _ _ _ | exact w_Back0 _ _ _ _ _
theorem w_EdF : wR (mEd false e st) QD X = QD .edct st := by simp only [wR_iff, wS_iff]; first | exact w_EdF0 | exact w_EdF0 _ | exact w_EdF0 _ _ | exact w_EdF0 _ _ _ | exact w_EdF0 _ _ _ _ | exact w_EdF0 _ _ _ _ _
theorem w_EdT : wR (mEd true e st) QD X = QD (.loc st.length) (st ++ [.dct []]) := by simp only [wR_iff, wS_iff]; first | exact w_EdT0 | exact w_EdT0 _ | exact w_EdT0 _ _ | exact w_EdT0 _ _ _ | exact w_EdT0 _ _ _ _ | exact w_EdT0 _ _ _ _ _
theorem w_Seq (a b : SM) : wS (sSeq a b e st) P = wS (a e st) { P with nx := fun e st => wS (b e st) P } := by simp only [wR_iff, wS_iff]; first | exact w_Seq0 | exact w_Seq0 _ | exact w_Seq0 _ _ | exact w_Seq0 _ _ _ | exact w_Seq0 _ _ _ _ | exact w_Seq0 _ _ _ _ _
theorem w_sNx : wS (sNx e st) P = P.nx e st := by simp only [wR_iff, wS_iff]; first | exact w_sNx0 | exact w_sNx0 _ | exact w_sNx0 _ _ | exact w_sNx0 _ _ _ | exact w_sNx0 _ _ _ _ | exact w_sNx0 _ _ _ _ _
theorem w_Expr (a : EM) : wS (sExpr a e st) P = wR (a e st) (fun _ st1 => P.nx e st1) (fun c fs st => P.ex c fs e st) := by simp only [wR_iff, wS_iff]; first | exact w_Expr0 | exact w_Expr0 _ | exact w_Expr0 _ _ | exact w_Expr0 _ _ _ | exact w_Expr0 _ _ _ _ | exact w_Expr0 _ _ _ _ _
theorem w_Ret (a : EM) : wS (sRet a e st) P = wR (a e st) (fun d st1 => P.rt d st1) (fun c fs st => P.ex c fs e st) := by simp only [wR_iff, wS_iff]; first | exact w_Ret0 | exact w_Ret0 _ | exact w_Ret0 _ _ | exact w_Ret0 _ _ _ | exact w_Ret0 _ _ _ _ | exact w_Ret0 _ _ _ _ _
theorem w_sIf (c : TM) (a b : SM) : wS (sIf c a b e st) P = wR (c e st) (fun k st1 => if k = true then wS (a e st1) P else wS (b e st1) P) (fun c fs st => P.ex c fs e st) := by simp only [wR_iff, wS_iff]; first | exact w_sIf0 | exact w_sIf0 _ | exact w_sIf0 _ _ | exact w_sIf0 _ _ _ | exact w_sIf0 _ _ _ _ | exact w_sIf0 _ _ _ _ _
theorem w_Asg (a : EM) (g : GM) : wS (sAsg a g e st) P = wR (a e st) (fun d st1 => gGet (g d e) P.nx st1) (fun c fs st => P.ex c fs e st) := by simp only [wR_iff, wS_iff]; first | exact w_Asg0 | exact w_Asg0 _ | exact w_Asg0 _ _ | exact w_Asg0 _ _ _ | exact w_Asg0 _ _ _ _ | exact w_Asg0 _ _ _ _ _
theorem w_Par (i j : Nat) (a b : EM) : wS (sPar i j a b e st) P = wR (a e st) (fun x st1 => wR (b e st1) (fun y st2 => P.nx ((e.set i (some x)).set j (some y)) st2) (fun c fs st => P.ex c fs e st)) (fun c fs st => P.ex c fs e st) := by simp only [wR_iff, wS_iff]; first | exact w_Par0 | exact w_Par0 _ | exact w_Par0 _ _ | exact w_Par0 _ _ _ | exact w_Par0 _ _ _ _ | exact w_Par0 _ _ _ _ _
theorem w_Par3 (i j l : Nat) (a b c : EM) : wS (sPar3 i j l a b c e st) P = wR (a e st) (fun x st1 => wR (b e st1) (fun y st2 => wR (c e st2) (fun z st3 => P.nx (((e.set i (some x)).set j (some y)).set l (some z)) st3) (fun c fs st => P.ex c fs e st)) (fun c fs st => P.ex c fs e st)) (fun c fs st => P.ex c fs e st) := by simp only [wR_iff, wS_iff]; first | exact w_Par30 _ _ _ _ _ _ | exact w_Par30 _ | exact w_Par30 _ _ | exact w_Par30 _ _ _ | exact w_Par30 _ _ _ _ | exact w_Par30 _ _ _ _ _
theorem w_body (n : Nat) (body : SM) (ds : List D) : wR (runBody n body ds st) QD X = wS (body (ds.map some ++ List.replicate (n - ds.length) none) st) (retP QD X) := by simp only [wR_iff, wS_iff]; first | exact w_body0 | exact w_body0 _ | exact w_body0 _ _ | exact w_body0 _ _ _ | exact w_body0 _ _ _ _ | exact w_body0 _ _ _ _ _
end
/-- a bound that nobody counts to -/
def lim : Nat := 1000000
theorem lim_sz : lim ≤ sizeLine := by decide
theorem le_lim {n : Nat} (h : n ≤ 1000) : n ≤ lim := Nat.le_trans h (by decide)
section
variable {α : Type} {st : Sto} {X : XP} {QD : D → Sto → Prop}
theorem add_lst {xs ys : List D} (h : xs.length + ys.length ≤ lim) : addD false (.lst xs) (.lst ys) st = .ok (.lst (xs ++ ys)) st := by
  show (if xs.length + ys.length ≤ sizeLine then newL false (xs ++ ys) st else .no) = _
  rw [if_pos (Nat.le_trans h lim_sz)]
  rfl
theorem add_tup {xs ys : List D} (h : xs.length + ys.length ≤ lim) : addD false (.tup xs) (.tup ys) st = .ok (.tup (xs ++ ys)) st := by
  show (if xs.length + ys.length ≤ sizeLine then R.ok (D.tup (xs ++ ys)) st else .no) = _
  rw [if_pos (Nat.le_trans h lim_sz)]
theorem eq_ii (i j : Int) : cmpD .Eq (.int i) (.int j) st = .ok (.bl (i == j)) st := rfl
theorem ne_ii (i j : Int) : cmpD .NotEq (.int i) (.int j) st = .ok (.bl (!(i == j))) st := rfl
theorem newC_f (xs : List D) : newC false xs st = .ok (.lst xs) st := rfl
theorem tru_bl (k : Bool) : truD st (.bl k) = some k := rfl
theorem tru_int (k : Int) : truD st (.int k) = some (k != 0) := rfl
theorem tupleD_lst (xs : List D) : tupleD [.lst xs] st = .ok (.tup xs) st := rfl
theorem tupleD_tup (xs : List D) : tupleD [.tup xs] st = .ok (.tup xs) st := rfl
theorem listD_lst (xs : List D) : listD false [.lst xs] st = .ok (.lst xs) st := rfl
theorem listD_tup (xs : List D) : listD false [.tup xs] st = .ok (.lst xs) st := rfl
theorem lenD_lst (xs : List D) : lenD [.lst xs] st = .ok (.int xs.length) st := rfl
theorem lenD_tup (xs : List D) : lenD [.tup xs] st = .ok (.int xs.length) st := rfl
theorem back_tup (xs : List D) : backD false (.tup xs) st = .ok (.tup xs.reverse) st := rfl
theorem back_lst (xs : List D) : backD false (.lst xs) st = .ok (.lst xs.reverse) st := rfl
def cutL (xs : List D) (lo hi : Option Int) : List D := (xs.drop (HT.sIx xs.length 0 lo)).take (HT.sIx xs.length xs.length hi - HT.sIx xs.length 0 lo)
theorem slice_tup (xs : List D) (lo hi : Option Int) : sliceD false (.tup xs) lo hi st = .ok (.tup (cutL xs lo hi)) st := rfl
theorem slice_lst (xs : List D) (lo hi : Option Int) : sliceD false (.lst xs) lo hi st = .ok (.lst (cutL xs lo hi)) st := rfl
theorem cutL_mem {xs : List D} {lo hi : Option Int} {x : D} (h : x ∈ cutL xs lo hi) : x ∈ xs := List.mem_of_mem_drop (List.mem_of_mem_take h)
theorem cutL_len (xs : List D) (lo hi : Option Int) : (cutL xs lo hi).length ≤ xs.length := by
  unfold cutL
  rw [List.length_take, List.length_drop]
  omega
/-- before a place -/
theorem cutL_to (xs : List D) (i : Nat) : cutL xs none (some (i : Int)) = xs.take i := by
  unfold cutL
  have e1 : HT.sIx xs.length 0 none = 0 := rfl
  rw [e1, List.drop_zero, Nat.sub_zero, HT.sIx_nat, List.take_eq_take_iff]
  omega
/-- from a place on -/
theorem cutL_from (xs : List D) (i : Nat) : cutL xs (some (i : Int)) none = xs.drop i := by
  unfold cutL
  have e1 : HT.sIx xs.length xs.length none = xs.length := rfl
  rw [e1, HT.sIx_nat]
  by_cases h : i ≤ xs.length
  · rw [Nat.min_eq_left h]
    exact List.take_of_length_le (by rw [List.length_drop]; exact Nat.le_refl _)
  · rw [Nat.min_eq_right (by omega), List.drop_eq_nil_of_le (Nat.le_refl _), List.drop_eq_nil_of_le (by omega), List.take_nil]
end
theorem cst1 (r : Nat) : (r : Int) + 1 = ((r + 1 : Nat) : Int) := rfl
theorem notT_eq (k : Bool) : ((!k) = true) = (k = false) := by cases k <;> simp
theorem upto_all {n : Nat} {P : D → Prop} (h : ∀ i : Nat, i < n → P (.int i)) : ∀ x ∈ upto n, P x := fun x hx => by
  obtain ⟨i, hi, rfl⟩ := upto_mem hx
  exact h i hi
theorem suf_mem {α : Type} {x : α} {r xs : List α} (h : ∃ p, p ++ x :: r = xs) : x ∈ xs := by
  obtain ⟨p, rfl⟩ := h
  simp
/-- the pairs of enumerate: a place, what stands there -/
theorem pairs_mem {xs : List D} {x : D} (h : x ∈ pairsOf xs) : ∃ (i : Nat) (y : D), i < xs.length ∧ y ∈ xs ∧ xs[i]? = some y ∧ x = .tup [.int i, y] := by
  unfold pairsOf at h
  obtain ⟨i, hi, rfl⟩ := List.mem_map.mp h
  have lt := List.mem_range.mp hi
  have at_ : xs[i]? = some xs[i] := List.getElem?_eq_getElem lt
  have get_ : xs.getD i .non = xs[i] := by rw [List.getD_eq_getElem?_getD, at_]; rfl
  exact ⟨i, xs[i], lt, List.getElem_mem _, at_, by rw [get_]⟩
theorem asg_ev {g : GM} {body : SM} {d : D} {e e' : Sl} {st : Sto} (h : g d e = some e') : asg g body d e st = body e' st := by
  unfold asg; rw [h]
theorem tg_two (i j : Nat) (x y : D) (e : Sl) : (Tg.tup (.cons (.name i) (.cons (.name j) .nil))).m (.tup [x, y]) e = some ((e.set i (some x)).set j (some y)) := rfl
theorem tg_three (i j k : Nat) (x y z : D) (e : Sl) : (Tg.tup (.cons (.name i) (.cons (.name j) (.cons (.name k) .nil)))).m (.tup [x, y, z]) e = some (((e.set i (some x)).set j (some y)).set k (some z)) := rfl
theorem gm_tg (i : Nat) (d : D) (e : Sl) : (Tg.name i).m d e = some (e.set i (some d)) := rfl
/-! ### loops -/
section
variable {st : Sto} {e : Sl} {P : Po} {X : XP}
theorem asg_two (i j : Nat) (x y : D) (body : SM) : asg (Tg.tup (.cons (.name i) (.cons (.name j) .nil))).m body (.tup [x, y]) e st = body ((e.set i (some x)).set j (some y)) st := rfl
/-- the loop's own ends -/
def loopP (P : Po) (I : Sl → Sto → Prop) : Po := ⟨I, P.nx, I, P.rt, P.ex⟩
theorem walk_w {body : D → SM} (I : List D → Sl → Sto → Prop) (hN : ∀ e st, I [] e st → P.nx e st) : ∀ (xs : List D) (e : Sl) (st : Sto), I xs e st → (∀ x r e st, (∃ p, p ++ x :: r = xs) → I (x :: r) e st → wS (body x e st) (loopP P (I r))) → wS (walk body xs e st) P
  | [], e, st, h, _ => ⟨hN _ _ h⟩
  | x :: xs, e, st, h, step => by
    have s := step x xs e st ⟨[], rfl⟩ h
    have more : ∀ e st, I xs e st → wS (walk body xs e st) P := fun e st h => walk_w I hN xs e st h fun y r e st ⟨p, hp⟩ => step y r e st ⟨x :: p, by rw [List.cons_append, hp]⟩
    unfold walk
    cases q : body x e st with
    | nx e' st' => rw [q] at s; exact more _ _ s.h
    | ct e' st' => rw [q] at s; exact more _ _ s.h
    | bk e' st' => rw [q] at s; exact ⟨s.h⟩
    | rt d st' => rw [q] at s; exact ⟨s.h⟩
    | exc c fs e' st' => rw [q] at s; exact ⟨s.h⟩
    | no => rw [q] at s; exact ⟨s.h⟩
/-- what is walked, found first -/
def wI (im : IM) (e : Sl) (st : Sto) (K : List D → Sto → Prop) (X : XP) : Prop := wR (im e st) (fun it st1 => ∃ xs, (∀ st, it.len st = some xs.length) ∧ (∀ st i, it.at st i = xs[i]?) ∧ K xs st1) X
theorem w_For {im : IM} {g : GM} {body : SM} (h : wI im e st (fun xs st1 => wS (walk (asg g body) xs e st1) P) (fun c fs st => P.ex c fs e st)) : wS (sFor im g body e st) P := by
  unfold wI at h
  cases q : im e st with
  | ok it st1 =>
    rw [q] at h
    obtain ⟨xs, h1, h2, h3⟩ := h.h
    rw [sFor_walk q h1 h2]
    exact h3
  | exc c fs st1 => rw [q] at h; unfold sFor; rw [q]; exact ⟨h.h⟩
  | no => rw [q] at h; exact h.h.elim
theorem w_Lc {mt : Bool} {im : IM} {vs : List Nat} {g : GM} {c : TM} {f : EM} {QD : D → Sto → Prop} (h : wI im e st (fun xs st1 => wR (mapW g c f (wipeE e vs) xs [] st1) (fun ds st2 => wR (newC mt ds st2) QD X) X) X) : wR (mLc mt im vs g c f e st) QD X := by
  unfold wI at h
  cases q : im e st with
  | ok it st1 =>
    rw [q] at h
    obtain ⟨xs, h1, h2, h3⟩ := h.h
    rw [mLc_walk q h1 h2, wR_bind]
    exact h3
  | exc c fs st1 => rw [q] at h; unfold mLc; rw [q]; exact ⟨h.h⟩
  | no => rw [q] at h; exact h.h.elim
theorem i_seq {m : EM} {K : List D → Sto → Prop} (h : wR (m e st) (fun d st1 => ∃ xs, ofSeq d = some xs ∧ K xs st1) X) : wI (imSeq m) e st K X := by
  unfold wI imSeq
  rw [wR_bind]
  refine wR_mono h fun d st1 ⟨xs, hd, k⟩ => ?_
  cases d with
  | lst ys => cases hd; exact ⟨xs, fun _ => rfl, fun _ _ => rfl, k⟩
  | tup ys => cases hd; exact ⟨xs, fun _ => rfl, fun _ _ => rfl, k⟩
  | _ => cases hd
theorem i_enum {m : EM} {K : List D → Sto → Prop} (h : wR (m e st) (fun d st1 => ∃ xs, ofSeq d = some xs ∧ K (pairsOf xs) st1) X) : wI (imEnum m) e st K X := by
  unfold wI imEnum
  rw [wR_bind, w_Lcons]
  refine wR_mono h fun d st1 ⟨xs, hd, k⟩ => ?_
  have items_ : ∀ st, seqItems st d = some xs := fun st => by
    cases d with
    | lst ys => exact hd
    | tup ys => exact hd
    | _ => cases hd
  rw [w_Lnil]
  dsimp only
  rw [items_]
  refine ⟨pairsOf xs, fun st => ?_, fun st i => ?_, k⟩
  · show (seqItems st d).map List.length = _
    rw [items_, pairsOf, List.length_map, List.length_range]
    rfl
  · show ((seqItems st d).bind fun xs => (xs[i]?).map fun x => D.tup [.int i, x]) = _
    rw [items_]
    unfold pairsOf
    rw [List.getElem?_map]
    by_cases z : i < xs.length
    · rw [List.getElem?_range z]
      show (xs[i]?).map _ = some (D.tup [.int i, xs.getD i .non])
      rw [List.getElem?_eq_getElem z, List.getD_eq_getElem?_getD, List.getElem?_eq_getElem z]
      rfl
    · rw [List.getElem?_eq_none (l := List.range xs.length) (by simpa using z)]
      show (xs[i]?).map _ = none
      rw [List.getElem?_eq_none (by omega)]
      rfl
theorem i_range {m : EM} {K : List D → Sto → Prop} (h : wR (m e st) (fun d st1 => ∃ n : Nat, d = .int n ∧ n ≤ 1000 ∧ K (upto n) st1) X) : wI (imR1 m) e st K X := by
  unfold wI
  cases q : m e st with
  | ok d st1 =>
    rw [q] at h
    obtain ⟨n, rfl, hn, k⟩ := h.h
    rw [imR1_nat q (Nat.le_trans hn (by decide))]
    exact ⟨⟨upto n, fun _ => by rw [upto_len]; rfl, rng_at n, k⟩⟩
  | exc c fs st1 => rw [q] at h; unfold imR1; rw [mL_cons, q]; exact ⟨h.h⟩
  | no => rw [q] at h; exact h.h.elim
/-- each value gives one, or none -/
theorem mapW_w {g : GM} {c : TM} {f : EM} {Q : List D → Sto → Prop} (I : List D → List D → Sto → Prop) (hN : ∀ ys st, I [] ys st → Q ys st) : ∀ (xs acc : List D) (st : Sto), acc.length + xs.length ≤ sizeLine → I xs acc st →
    (∀ x r acc st, (∃ p, p ++ x :: r = xs) → I (x :: r) acc st → gGet (g x e) (fun e' st => wR (c e' st) (fun k st1 => if k = true then wR (f e' st1) (fun y st2 => I r (acc ++ [y]) st2) nX else I r acc st1) nX) st) → wR (mapW g c f e xs acc st) Q X
  | [], acc, st, _, h, _ => ⟨hN _ _ h⟩
  | x :: xs, acc, st, hl, h, step => by
    rw [List.length_cons] at hl
    have s := step x xs acc st ⟨[], rfl⟩ h
    have more : ∀ acc' st, acc'.length + xs.length ≤ sizeLine → I xs acc' st → wR (mapW g c f e xs acc' st) Q X := fun acc' st hl' h => mapW_w I hN xs acc' st hl' h fun y r a st ⟨p, hp⟩ => step y r a st ⟨x :: p, by rw [List.cons_append, hp]⟩
    unfold mapW
    cases q : g x e with
    | none => rw [q] at s; exact s.elim
    | some e' =>
      rw [q] at s
      have s : wR (c e' st) _ nX := s
      dsimp only
      cases q2 : c e' st with
      | ok k st1 =>
        rw [q2] at s
        cases k with
        | true =>
          have s : wR (f e' st1) _ nX := s.h
          dsimp only
          cases q3 : f e' st1 with
          | ok y st2 =>
            rw [q3] at s
            dsimp only
            rw [if_pos (by omega)]
            exact more _ _ (by rw [List.length_append, List.length_singleton]; omega) s.h
          | exc _ _ _ => rw [q3] at s; exact s.h.elim
          | no => rw [q3] at s; exact s.h.elim
        | false => exact more _ _ (by omega) s.h
      | exc _ _ _ => rw [q2] at s; exact s.h.elim
      | no => rw [q2] at s; exact s.h.elim
end
end DX

/-! DxX: what the laws draw: heads, manners, protocols, odd values. -/
set_option linter.all false
set_option maxRecDepth 100000
set_option Elab.async false
namespace DX
open PySem PySem.Spec PyProof.Rows L2
local macro_rules | `(tactic| wp_walk) => `(tactic| try simp only [w_C, w_Var, vGet_some, w_Lnil, w_Lcons, w_Op, w_Call, w_Tup, w_Lst, w_LstT, w_Fn, w_If, w_Tst, tGet_bl, w_Tru, uGet_some, w_tAnd, w_tOr, w_tNot, w_And, w_Or, w_Not, w_Slice, w_pN, w_pS, iGet_int, w_Neg, w_Back, w_EdF, w_EdT, w_Seq, w_sNx, w_Expr, w_Ret, w_sIf, w_Asg, g_name, gGet_some, w_Par, w_Par3, retP_nx, retP_rt, retP_ex, wS_nx, wS_bk, wS_ct, wS_rt, wR_ok, wR_bind, List.getElem?_cons_zero, List.getElem?_cons_succ, List.set_cons_zero, List.set_cons_succ, pick, List.filterMap_cons, List.filterMap_nil, List.cons_append, List.nil_append, List.append_nil, if_true, if_false, Bool.false_eq_true, Bool.not_true, Bool.not_false, List.length_cons, List.length_nil, List.replicate_succ, List.replicate_zero, Nat.reduceSub, List.map_cons, List.map_nil, fits_small, add_lst, add_tup, DX.add_int, DX.sub_int, eq_ii, ne_ii, newC_f, tru_bl, tru_int, tupleD_lst, tupleD_tup, listD_lst, listD_tup, lenD_lst, lenD_tup, back_tup, back_lst, slice_tup, slice_lst, cmp_lt, cmp_le, cmp_gt, cmp_ge, int_int, int_bl, cmp_isnon, cmp_isnotnon, Nat.reduceAdd, Nat.reduceLeDiff, decide_eq_true_eq, asg_name, mLst_nil, cutL_to, cutL_from, cst1, asg_two, tg_two, tg_three, gm_tg, wipeE, notT_eq, Bool.true_eq_false, le_lim])
local macro_rules | `(tactic| wp_walk using $ls,*) => `(tactic| try simp only [w_C, w_Var, vGet_some, w_Lnil, w_Lcons, w_Op, w_Call, w_Tup, w_Lst, w_LstT, w_Fn, w_If, w_Tst, tGet_bl, w_Tru, uGet_some, w_tAnd, w_tOr, w_tNot, w_And, w_Or, w_Not, w_Slice, w_pN, w_pS, iGet_int, w_Neg, w_Back, w_EdF, w_EdT, w_Seq, w_sNx, w_Expr, w_Ret, w_sIf, w_Asg, g_name, gGet_some, w_Par, w_Par3, retP_nx, retP_rt, retP_ex, wS_nx, wS_bk, wS_ct, wS_rt, wR_ok, wR_bind, List.getElem?_cons_zero, List.getElem?_cons_succ, List.set_cons_zero, List.set_cons_succ, pick, List.filterMap_cons, List.filterMap_nil, List.cons_append, List.nil_append, List.append_nil, if_true, if_false, Bool.false_eq_true, Bool.not_true, Bool.not_false, List.length_cons, List.length_nil, List.replicate_succ, List.replicate_zero, Nat.reduceSub, List.map_cons, List.map_nil, fits_small, add_lst, add_tup, DX.add_int, DX.sub_int, eq_ii, ne_ii, newC_f, tru_bl, tru_int, tupleD_lst, tupleD_tup, listD_lst, listD_tup, lenD_lst, lenD_tup, back_tup, back_lst, slice_tup, slice_lst, cmp_lt, cmp_le, cmp_gt, cmp_ge, int_int, int_bl, cmp_isnon, cmp_isnotnon, Nat.reduceAdd, Nat.reduceLeDiff, decide_eq_true_eq, asg_name, mLst_nil, cutL_to, cutL_from, cst1, asg_two, tg_two, tg_three, gm_tg, wipeE, notT_eq, Bool.true_eq_false, le_lim, $[$ls:term],*])

/-! ### heads, manners, protocols -/
inductive S3 where
  | n | l | f
  deriving DecidableEq
inductive Th where
  | o | a | c | b
  deriving DecidableEq
structure Hd where
  b : S3
  c : S3
  a : S3
  deriving DecidableEq
structure Mn where
  p : S3
  c : S3
  a : S3
  t : Th
  e : Bool
  s : Bool
  deriving DecidableEq
structure Pr where
  h : Hd
  ms : List Mn
  deriving DecidableEq
def eS : S3 → D
  | .n => .str "none"
  | .l => .str "lazy"
  | .f => .str "forced"
def eT : Th → D
  | .o => .tup []
  | .a => .tup [.str "abort"]
  | .c => .tup [.str "commit"]
  | .b => .tup [.str "abort", .str "commit"]
/-- an end: commit (true), abort (false) -/
def eE : Bool → D
  | false => .str "abort"
  | true => .str "commit"
def eH (h : Hd) : D := .tup [eS h.b, eS h.c, eS h.a]
def eM (m : Mn) : D := .tup [eS m.p, eS m.c, eS m.a, eT m.t, eE m.e, .bl m.s]
def eP (p : Pr) : D := .tup [eH p.h, .tup (p.ms.map eM)]
theorem sh_eS (s : S3) : Sh 8 1 (eS s) := by cases s <;> exact sh_of (by decide +kernel)
theorem sh_eE (s : Bool) : Sh 8 1 (eE s) := by cases s <;> exact sh_of (by decide +kernel)
theorem sh_eT (s : Th) : Sh 19 2 (eT s) := by cases s <;> exact sh_of (by decide +kernel)
theorem sh_bl (s : Bool) : Sh 8 1 (.bl s) := by cases s <;> exact sh_of (by decide +kernel)
theorem sh_all_nil {n d : Nat} : ∀ x ∈ ([] : List D), Sh n d x := fun _ h => nomatch h
theorem sh_all_cons {n d : Nat} {x : D} {xs : List D} (h : Sh n d x) (t : ∀ y ∈ xs, Sh n d y) : ∀ y ∈ x :: xs, Sh n d y := fun y hy => by
  rcases List.mem_cons.mp hy with rfl | hy
  · exact h
  · exact t y hy
theorem sh_all_app {n d : Nat} {xs ys : List D} (h : ∀ y ∈ xs, Sh n d y) (t : ∀ y ∈ ys, Sh n d y) : ∀ y ∈ xs ++ ys, Sh n d y := fun y hy => (List.mem_append.mp hy).elim (h y) (t y)
theorem sh_eH (h : Hd) : Sh 40 2 (eH h) := (Sh.tup (n := 8) (d := 1) (k := 3) (sh_all_cons (sh_eS _) (sh_all_cons (sh_eS _) (sh_all_cons (sh_eS _) sh_all_nil))) (Nat.le_refl _)).mono (by decide) (by decide)
theorem sh_eM (m : Mn) : Sh 140 3 (eM m) := (Sh.tup (n := 19) (d := 2) (k := 6) (sh_all_cons ((sh_eS _).mono (by decide) (by decide)) (sh_all_cons ((sh_eS _).mono (by decide) (by decide)) (sh_all_cons ((sh_eS _).mono (by decide) (by decide)) (sh_all_cons (sh_eT _) (sh_all_cons ((sh_eE _).mono (by decide) (by decide)) (sh_all_cons ((sh_bl _).mono (by decide) (by decide)) sh_all_nil)))))) (Nat.le_refl _)).mono (by decide) (by decide)
theorem sh_eMs (ms : List Mn) : ∀ y ∈ ms.map eM, Sh 140 3 y := fun y hy => by
  obtain ⟨m, _, rfl⟩ := List.mem_map.mp hy
  exact sh_eM m
theorem sh_eP (p : Pr) (h : p.ms.length ≤ 50) : Sh 15000 5 (eP p) := (Sh.tup (n := 7200) (d := 4) (k := 2) (sh_all_cons ((sh_eH _).mono (by decide) (by decide)) (sh_all_cons ((Sh.tup (n := 140) (d := 3) (k := 50) (sh_eMs _) (by rw [List.length_map]; exact h)).mono (by decide) (by decide)) sh_all_nil)) (Nat.le_refl _)).mono (by decide) (by decide)
/-! ### draws, by what is wanted -/
/-- the bag is there still, and nothing else has changed -/
structure BO (st st' : Sto) : Prop where
  bag : Bag st' 0 1
  only : Only st st' 0 1
theorem BO.refl {st : Sto} (h : Bag st 0 1) : BO st st := ⟨h, .refl⟩
theorem BO.trans {a b c : Sto} (h : BO a b) (k : BO b c) : BO a c := ⟨k.bag, h.only.trans k.only⟩
section
variable {st : Sto} {Q : D → Sto → Prop} {X : XP}
theorem draw_w {many : Int} (hB : Bag st 0 1) (hm : many < 1073741824) (k : ∀ (r : Int) st', BO st st' → (many < 2 → r = 0) → (2 ≤ many → 0 ≤ r ∧ r < many) → Q (.int r) st') : wR (F_draw.run [.loc 0, .int many] st) Q X := by
  obtain ⟨r, st', h1, h2, h3, h4, h5, h6⟩ := draw_run hB hm
  rw [show F_draw.run = runBody 4 B_draw from rfl, h1]
  rw [wR_ok]
  exact k r st' ⟨h2, h3⟩ h5 h6
theorem draw_nat {many : Nat} (hB : Bag st 0 1) (h0 : 0 < many) (hm : many ≤ 1000) (k : ∀ (r : Nat) st', BO st st' → r < many → Q (.int (r : Nat)) st') : wR (F_draw.run [.loc 0, .int (many : Nat)] st) Q X := by
  refine draw_w hB (by omega) fun r st' b h1 h2 => ?_
  have h : 0 ≤ r ∧ r < many := by
    by_cases c : (many : Int) < 2
    · rw [h1 c]; omega
    · exact h2 (by omega)
  have z := k r.toNat st' b (by omega)
  rwa [Int.toNat_of_nonneg h.1] at z
def B_pick : SM := sRet (mOp ixD (mVar 1) (mFn F_draw [0, 1] [mVar 0, mCall lenD [mVar 1]] []))
def F_pick : FI := ⟨["bag", "items"], runBody 2 B_pick⟩
theorem ix_lst {xs : List D} {i : Nat} {x : D} {st : Sto} (h : xs[i]? = some x) : ixD (.lst xs) (.int (i : Nat)) st = .ok x st := by
  have hi : i < xs.length := (List.getElem?_eq_some_iff.mp h).1
  have e : L2.atI xs (i : Nat) = some x := by
    unfold L2.atI L2.ixN
    rw [if_pos (by omega), if_pos (by omega)]
    simpa using h
  show R.of (L2.atI xs (i : Nat)) st = _
  rw [e]; rfl
theorem len_seq {d : D} {xs : List D} {st : Sto} (h : ofSeq d = some xs) : lenD [d] st = .ok (.int xs.length) st := by
  cases d with
  | tup ys => cases h; rfl
  | lst ys => cases h; rfl
  | _ => cases h
theorem ix_seq {d : D} {xs : List D} {i : Nat} {x : D} {st : Sto} (hd : ofSeq d = some xs) (h : xs[i]? = some x) : ixD d (.int (i : Nat)) st = .ok x st := by
  cases d with
  | tup ys => cases hd; exact ix_tup h
  | lst ys => cases hd; exact ix_lst h
  | _ => cases hd
theorem pick_seq {d : D} {xs : List D} (hd : ofSeq d = some xs) (hB : Bag st 0 1) (hx : xs ≠ []) (hl : xs.length ≤ 1000) (k : ∀ (x : D) st', x ∈ xs → BO st st' → Q x st') : wR (F_pick.run [.loc 0, d] st) Q X := by
  have h0 : 0 < xs.length := List.length_pos_iff.mpr hx
  rw [show F_pick.run = runBody 2 B_pick from rfl, w_body]
  unfold B_pick
  wp_walk
  rw [len_seq hd, wR_ok, callF_ok rfl]
  refine draw_nat hB h0 hl fun r st' b hr => ?_
  rw [ix_seq hd (List.getElem?_eq_getElem hr), wR_ok]
  exact k _ _ (List.getElem_mem _) b
theorem pick_w {xs : List D} (hB : Bag st 0 1) (hx : xs ≠ []) (hl : xs.length ≤ 1000) (k : ∀ (x : D) st', x ∈ xs → BO st st' → Q x st') : wR (F_pick.run [.loc 0, .lst xs] st) Q X := pick_seq rfl hB hx hl k
theorem pick_m {α : Type} (ys : List α) (f : α → D) {xs : List D} (e : xs = ys.map f) (hB : Bag st 0 1) (hx : xs ≠ []) (hl : xs.length ≤ 1000) (k : ∀ (y : α) st', y ∈ ys → BO st st' → Q (f y) st') : wR (F_pick.run [.loc 0, .lst xs] st) Q X := by
  refine pick_w hB hx hl fun x st' hm b => ?_
  rw [e] at hm
  obtain ⟨y, hy, rfl⟩ := List.mem_map.mp hm
  exact k y st' hy b
theorem cf_draw {a b : D} : callF F_draw [a, b] st = F_draw.run [a, b] st := rfl
theorem cf_pick {a b : D} : callF F_pick [a, b] st = F_pick.run [a, b] st := rfl
def B_strength : SM := sRet (mFn F_pick [0, 1] [mVar 0, mLst false [mC (.str "none"), mC (.str "lazy"), mC (.str "forced")]] [])
def F_strength : FI := ⟨["bag"], runBody 1 B_strength⟩
theorem cf_strength {a : D} : callF F_strength [a] st = F_strength.run [a] st := rfl
theorem strength_w (hB : Bag st 0 1) (k : ∀ (s : S3) st', BO st st' → Q (eS s) st') : wR (F_strength.run [.loc 0] st) Q X := by
  rw [show F_strength.run = runBody 1 B_strength from rfl, w_body]
  unfold B_strength
  wp_walk using cf_pick
  exact pick_m [S3.n, .l, .f] eS rfl hB (by simp) (by simp) fun s st' _ b => k s st' b
def B_head : SM := sRet (mTup [mFn F_strength [0] [mVar 0] [], mFn F_strength [0] [mVar 0] [], mFn F_strength [0] [mVar 0] []])
def F_head : FI := ⟨["bag"], runBody 1 B_head⟩
theorem cf_head {a : D} : callF F_head [a] st = F_head.run [a] st := rfl
theorem head_w (hB : Bag st 0 1) (k : ∀ (h : Hd) st', BO st st' → Q (eH h) st') : wR (F_head.run [.loc 0] st) Q X := by
  rw [show F_head.run = runBody 1 B_head from rfl, w_body]
  unfold B_head
  wp_walk using cf_strength
  refine strength_w hB fun a st1 b1 => strength_w b1.bag fun b st2 b2 => strength_w b2.bag fun c st3 b3 => ?_
  exact k ⟨a, b, c⟩ st3 ((b1.trans b2).trans b3)
def B_manner : SM := sSeq (sAsg (mFn F_pick [0, 1] [mVar 0, mLst false [mTup [], mTup [mC (.str "abort")], mTup [mC (.str "commit")], mTup [mC (.str "abort"), mC (.str "commit")]]] []) (gmName 1))
  (sRet (mOp (addD false) (mFn F_head [0] [mVar 0] []) (mTup [mVar 1, mFn F_pick [0, 1] [mVar 0, mLst false [mC (.str "abort"), mC (.str "commit")]] [], mOp (cmpD .Eq) (mFn F_draw [0, 1] [mVar 0, mC (.int 2)] []) (mC (.int 0))])))
def F_manner : FI := ⟨["bag"], runBody 2 B_manner⟩
theorem cf_manner {a : D} : callF F_manner [a] st = F_manner.run [a] st := rfl
theorem manner_w (hB : Bag st 0 1) (k : ∀ (m : Mn) st', BO st st' → Q (eM m) st') : wR (F_manner.run [.loc 0] st) Q X := by
  rw [show F_manner.run = runBody 2 B_manner from rfl, w_body]
  unfold B_manner
  wp_walk using cf_pick, cf_head, cf_draw
  refine pick_m [Th.o, .a, .c, .b] eT rfl hB (by simp) (by simp) fun t st1 _ b1 => ?_
  refine head_w b1.bag fun h st2 b2 => ?_
  refine pick_m [false, true] eE rfl b2.bag (by simp) (by simp) fun p st3 _ b3 => ?_
  refine draw_w b3.bag (by decide) fun r st4 b4 _ _ => ?_
  wp_walk using eH
  exact k ⟨h.b, h.c, h.a, t, p, r == 0⟩ st4 (((b1.trans b2).trans b3).trans b4)
def B_protocol : SM := sRet (mTup [mFn F_head [0] [mVar 0] [], mCall tupleD [mLc false (imR1 (mVar 1)) [2] (Tg.name 2).m (fun _ st => .ok true st) (mFn F_manner [0] [mVar 0] [])]])
def F_protocol : FI := ⟨["bag", "many"], runBody 3 B_protocol⟩
theorem cf_protocol {a b : D} : callF F_protocol [a, b] st = F_protocol.run [a, b] st := rfl
theorem upto_succ_ne {n : Nat} (h : n ≠ 0) : upto n ≠ [] := fun z => h (by rw [← upto_len n, z]; rfl)
theorem protocol_w {many : Nat} (hB : Bag st 0 1) (hm : many ≤ 100) (k : ∀ (p : Pr) st', p.ms.length = many → BO st st' → Q (eP p) st') : wR (F_protocol.run [.loc 0, .int (many : Nat)] st) Q X := by
  rw [show F_protocol.run = runBody 3 B_protocol from rfl, w_body]
  unfold B_protocol
  wp_walk using cf_head
  refine head_w hB fun h st1 b1 => ?_

  refine w_Lc ?_
  refine i_range ?_
  wp_walk
  refine ⟨many, rfl, by omega, ?_⟩
  refine mapW_w (fun r acc st' => ∃ ms : List Mn, acc = ms.map eM ∧ acc.length + r.length = many ∧ BO st st') ?hN (upto many) [] st1 (by rw [upto_len]; exact Nat.le_trans (by simpa using hm) (by decide)) ⟨[], rfl, by rw [upto_len]; simp, b1⟩ ?step
  case hN =>
    rintro ys st' ⟨ms, rfl, l, b⟩
    exact k ⟨h, ms⟩ st' (by simpa using l) b
  case step =>
    rintro x r acc st' _ ⟨ms, rfl, l, b⟩
    wp_walk using name_m, wipeE, cf_manner
    exact manner_w b.bag fun m st2 b2 => ⟨ms ++ [m], by simp, by simp at l ⊢; omega, b.trans b2⟩
def B_odd : SM := sSeq (sAsg (mLst false [mC (.non), mC (.bl true), mC (.bl false), mC (.int 0), mC (.int 1), mC (.int 2), mNeg (mC (.int 1)), mOp (arD .Pow) (mC (.int 10)) (mC (.int 30)), mC (.str ""), mC (.str "none"), mC (.str "lazy"), mC (.str "forced"), mC (.str "abort"), mC (.str "commit"), mC (.str "sure")]) (gmName 1))
  (sSeq (sAsg (mOp (addD false) (mVar 1) (mLst false [mTup [], mTup [mC (.str "abort")], mTup [mC (.str "commit")], mTup [mC (.str "abort"), mC (.str "commit")], mTup [mC (.str "commit"), mC (.str "abort")], mTup [mC (.str "abort"), mC (.str "abort")]])) (gmName 1))
  (sSeq (sAsg (mOp (addD false) (mVar 1) (mLst false [mLst false [mC (.str "abort")], mLst false [], mEd false, mTup [mC (.str "none")], mTup [mTup [mC (.str "abort")]], mC (.str "both"), mTup [mC (.str "commit"), mC (.str "commit")], mLst false [mC (.str "forced")]])) (gmName 1))
  (sRet (mFn F_pick [0, 1] [mVar 0, mOp (addD false) (mVar 1) (mLst false [mC (.str "Forced")])] []))))
def F_odd : FI := ⟨["bag"], runBody 2 B_odd⟩
theorem cf_odd {a : D} : callF F_odd [a] st = F_odd.run [a] st := rfl
theorem pow_30 : arD .Pow (.int 10) (.int 30) st = .ok (.int 1000000000000000000000000000000) st := by kernel_rfl
def oddL : List D := [.non, .bl true, .bl false, .int 0, .int 1, .int 2, .int (-1), .int 1000000000000000000000000000000, .str "", .str "none", .str "lazy", .str "forced", .str "abort", .str "commit", .str "sure",
  .tup [], .tup [.str "abort"], .tup [.str "commit"], .tup [.str "abort", .str "commit"], .tup [.str "commit", .str "abort"], .tup [.str "abort", .str "abort"],
  .lst [.str "abort"], .lst [], .edct, .tup [.str "none"], .tup [.tup [.str "abort"]], .str "both", .tup [.str "commit", .str "commit"], .lst [.str "forced"], .str "Forced"]
def shAllB (n d : Nat) (xs : List D) : Bool := xs.all (shB n d)
theorem sh_allB {n d : Nat} {xs : List D} (h : shAllB n d xs = true) : ∀ x ∈ xs, Sh n d x := fun x hx => sh_of (List.all_eq_true.mp h x hx)
theorem sh_oddL : ∀ x ∈ oddL, Sh 40 3 x := sh_allB (by decide +kernel)
theorem odd_w (hB : Bag st 0 1) (k : ∀ (x : D) st', x ∈ oddL → BO st st' → Q x st') : wR (F_odd.run [.loc 0] st) Q X := by
  rw [show F_odd.run = runBody 2 B_odd from rfl, w_body]
  unfold B_odd
  wp_walk using cf_pick, pow_30
  exact pick_w hB (by simp) (by simp) k
def B_any (Fs : FI) : SM := sSeq (sIf (tmOr (mTst (mOp (cmpD .Eq) (mVar 1) (mC (.int 0)))) (mTst (mOp (cmpD .Gt) (mFn F_draw [0, 1] [mVar 0, mC (.int 3)] []) (mC (.int 0))))) (sRet (mFn F_odd [0] [mVar 0] [])) (sNx))
  (sSeq (sAsg (mLc false (imR1 (mFn F_draw [0, 1] [mVar 0, mC (.int 7)] [])) [3] (Tg.name 3).m (fun _ st => .ok true st) (mFn Fs [0, 1] [mVar 0, mOp (arD .Sub) (mVar 1) (mC (.int 1))] [])) (gmName 2))
  (sRet (mIf (mTst (mOp (cmpD .Gt) (mFn F_draw [0, 1] [mVar 0, mC (.int 4)] []) (mC (.int 0)))) (mCall tupleD [mVar 2]) (mVar 2))))
end
def fAny : Nat → FI
  | 0 => ⟨["bag", "deep"], fun _ _ => .no⟩
  | k + 1 => ⟨["bag", "deep"], runBody 4 (B_any (fAny k))⟩
def shN : Nat → Nat
  | 0 => 40
  | k + 1 => shN k * 7 + 17
theorem shN_ge : ∀ k, 40 ≤ shN k
  | 0 => Nat.le_refl _
  | k + 1 => by unfold shN; have := shN_ge k; omega
theorem cf_any {k : Nat} {a b : D} {st : Sto} : callF (fAny k) [a, b] st = (fAny k).run [a, b] st := by cases k <;> rfl
theorem any_w : ∀ (deep k : Nat) (st : Sto) (Q : D → Sto → Prop) (X : XP), deep < k → Bag st 0 1 → (∀ (x : D) st', Sh (shN deep) (3 + deep) x → BO st st' → Q x st') → wR ((fAny k).run [.loc 0, .int (deep : Nat)] st) Q X := by
  intro deep
  induction deep with
  | zero =>
    intro k st Q X hk hB kk
    obtain ⟨k, rfl⟩ : ∃ j, k = j + 1 := ⟨k - 1, by omega⟩
    rw [show (fAny (k + 1)).run = runBody 4 (B_any (fAny k)) from rfl, w_body]
    unfold B_any
    wp_walk using cf_odd, show (((0 : Nat) : Int) == 0) = true from rfl
    exact odd_w hB fun x st' hx b => kk x st' (sh_oddL x hx) b
  | succ deep ih =>
    intro k st Q X hk hB kk
    obtain ⟨k, rfl⟩ : ∃ j, k = j + 1 := ⟨k - 1, by omega⟩
    rw [show (fAny (k + 1)).run = runBody 4 (B_any (fAny k)) from rfl, w_body]
    unfold B_any
    have e0 : (((deep + 1 : Nat) : Int) == 0) = false := by
      rw [beq_eq_false_iff_ne]; omega
    wp_walk using cf_odd, cf_draw, e0
    refine draw_w hB (by decide) fun r st1 b1 _ _ => ?_
    by_cases c : (0 : Int) < r
    · wp_walk using c
      exact odd_w b1.bag fun x st' hx b => kk x st' ((sh_oddL x hx).mono (shN_ge _) (by omega)) (b1.trans b)
    · wp_walk using c
      refine w_Lc (i_range ?_)
      wp_walk using cf_draw
      refine draw_nat (many := 7) b1.bag (by decide) (by decide) fun r st2 b2 hr => ⟨r, rfl, by omega, ?_⟩
      refine mapW_w (fun rest acc st' => acc.length + rest.length ≤ 7 ∧ (∀ x ∈ acc, Sh (shN deep) (3 + deep) x) ∧ BO st st') ?hN (upto r) [] st2 (by rw [upto_len]; exact Nat.le_trans (show _ ≤ 7 by simp; omega) (by decide)) ⟨by rw [upto_len]; simp; omega, sh_all_nil, b1.trans b2⟩ ?step
      case hN =>
        rintro ys st' ⟨l, h, b⟩
        refine draw_w b.bag (by decide) fun r st3 b3 _ _ => ?_
        have lt : Sh (shN (deep + 1)) (3 + (deep + 1)) (.tup ys) := (Sh.tup (k := 7) h (by simpa using l)).mono (by show _ ≤ shN deep * 7 + 17; omega) (by omega)
        have ll : Sh (shN (deep + 1)) (3 + (deep + 1)) (.lst ys) := (Sh.lst (k := 7) h (by simpa using l)).mono (by show _ ≤ shN deep * 7 + 17; omega) (by omega)
        wp_walk
        split
        · exact kk _ _ lt (b.trans b3)
        · exact kk _ _ ll (b.trans b3)
      case step =>
        rintro x rest acc st' _ ⟨l, h, b⟩
        wp_walk using name_m, wipeE, cf_any
        rw [show ((deep + 1 : Nat) : Int) - 1 = (deep : Nat) by omega]
        exact ih k _ _ _ (by omega) b.bag fun x st3 hx b3 => ⟨by simp at l ⊢; omega, sh_all_app h (sh_all_cons hx sh_all_nil), b.trans b3⟩
end DX

/-! DxY: protocols judged. -/
set_option linter.all false
set_option maxRecDepth 100000
set_option Elab.async false
namespace DX
open PySem PySem.Spec PyProof.Rows L2
local macro_rules | `(tactic| wp_walk) => `(tactic| try simp only [w_C, w_Var, vGet_some, w_Lnil, w_Lcons, w_Op, w_Call, w_Tup, w_Lst, w_LstT, w_Fn, w_If, w_Tst, tGet_bl, w_Tru, uGet_some, w_tAnd, w_tOr, w_tNot, w_And, w_Or, w_Not, w_Slice, w_pN, w_pS, iGet_int, w_Neg, w_Back, w_EdF, w_EdT, w_Seq, w_sNx, w_Expr, w_Ret, w_sIf, w_Asg, g_name, gGet_some, w_Par, w_Par3, retP_nx, retP_rt, retP_ex, wS_nx, wS_bk, wS_ct, wS_rt, wR_ok, wR_bind, List.getElem?_cons_zero, List.getElem?_cons_succ, List.set_cons_zero, List.set_cons_succ, pick, List.filterMap_cons, List.filterMap_nil, List.cons_append, List.nil_append, List.append_nil, if_true, if_false, Bool.false_eq_true, Bool.not_true, Bool.not_false, List.length_cons, List.length_nil, List.replicate_succ, List.replicate_zero, Nat.reduceSub, List.map_cons, List.map_nil, fits_small, add_lst, add_tup, DX.add_int, DX.sub_int, eq_ii, ne_ii, newC_f, tru_bl, tru_int, tupleD_lst, tupleD_tup, listD_lst, listD_tup, lenD_lst, lenD_tup, back_tup, back_lst, slice_tup, slice_lst, cmp_lt, cmp_le, cmp_gt, cmp_ge, int_int, int_bl, cmp_isnon, cmp_isnotnon, Nat.reduceAdd, Nat.reduceLeDiff, decide_eq_true_eq, asg_name, mLst_nil, cutL_to, cutL_from, cst1, asg_two, tg_two, tg_three, gm_tg, wipeE, notT_eq, Bool.true_eq_false, le_lim])
local macro_rules | `(tactic| wp_walk using $ls,*) => `(tactic| try simp only [w_C, w_Var, vGet_some, w_Lnil, w_Lcons, w_Op, w_Call, w_Tup, w_Lst, w_LstT, w_Fn, w_If, w_Tst, tGet_bl, w_Tru, uGet_some, w_tAnd, w_tOr, w_tNot, w_And, w_Or, w_Not, w_Slice, w_pN, w_pS, iGet_int, w_Neg, w_Back, w_EdF, w_EdT, w_Seq, w_sNx, w_Expr, w_Ret, w_sIf, w_Asg, g_name, gGet_some, w_Par, w_Par3, retP_nx, retP_rt, retP_ex, wS_nx, wS_bk, wS_ct, wS_rt, wR_ok, wR_bind, List.getElem?_cons_zero, List.getElem?_cons_succ, List.set_cons_zero, List.set_cons_succ, pick, List.filterMap_cons, List.filterMap_nil, List.cons_append, List.nil_append, List.append_nil, if_true, if_false, Bool.false_eq_true, Bool.not_true, Bool.not_false, List.length_cons, List.length_nil, List.replicate_succ, List.replicate_zero, Nat.reduceSub, List.map_cons, List.map_nil, fits_small, add_lst, add_tup, DX.add_int, DX.sub_int, eq_ii, ne_ii, newC_f, tru_bl, tru_int, tupleD_lst, tupleD_tup, listD_lst, listD_tup, lenD_lst, lenD_tup, back_tup, back_lst, slice_tup, slice_lst, cmp_lt, cmp_le, cmp_gt, cmp_ge, int_int, int_bl, cmp_isnon, cmp_isnotnon, Nat.reduceAdd, Nat.reduceLeDiff, decide_eq_true_eq, asg_name, mLst_nil, cutL_to, cutL_from, cst1, asg_two, tg_two, tg_three, gm_tg, wipeE, notT_eq, Bool.true_eq_false, le_lim, $[$ls:term],*])

theorem wR_X {α : Type} {r : R α} {Q : α → Sto → Prop} {X : XP} (h : wR r Q nX) : wR r Q X := by
  obtain ⟨a, st, e, q⟩ := wR_get h
  exact wR_eq e q
section
variable {α β : Type} {st : Sto} {e : Sl} {Q : D → Sto → Prop} {X : XP} {P : Po}
def cGet (z : D) (K : Prop) (Q : D → Sto → Prop) (st : Sto) : Prop := match z with
  | .bl true => K
  | .bl false => Q (.bl false) st
  | _ => False
theorem cGet_bl (k : Bool) (K : Prop) : cGet (.bl k) K Q st = if k = true then K else Q (.bl false) st := by cases k <;> rfl
theorem w_Chain (op op' : CmpOp) (a b c : EM) : wR (mChain op op' a b c e st) Q X = wR (a e st) (fun x st1 => wR (b e st1) (fun y st2 => wR (cmpD op x y st2) (fun z st3 => cGet z (wR (c e st3) (fun w st4 => wR (cmpD op' y w st4) Q X) X) Q st3) X) X) X := by
  show wR ((a e st).bind _) Q X = _
  rw [wR_bind]
  congr 1
  funext x st1
  rw [wR_bind]
  congr 1
  funext y st2
  rw [wR_bind]
  congr 1
  funext z st3
  cases z with
  | bl k =>
    cases k with
    | true =>
      show wR ((c e st3).bind _) Q X = _
      rw [wR_bind]
      rfl
    | false => rw [cGet_bl, if_neg Bool.false_ne_true]; exact wR_ok _
  | _ => simp only [wR_iff]; rfl
end
/-- the first manner that is wrong, from the place i on -/
def manScan (i : Nat) : List D → D
  | [] => .non
  | x :: r => if isNonB (manErr x) = true then manScan (i + 1) r else .tup [.str "manner", .int (i : Nat), manErr x]
/-- what is wrong with its manners -/
def mansErr (b : D) : D := match b with
  | .tup xs => if (decide (1 ≤ (xs.length : Int)) && decide ((xs.length : Int) ≤ 6)) = true then manScan 0 xs else .str "manners"
  | _ => .str "manners"
/-- what is wrong with a protocol -/
def protErr (x : D) : D := match x with
  | .tup [h, ms] => if (!isNonB (headErr h)) = true then .tup [.str "head", headErr h] else mansErr ms
  | _ => .str "form"
theorem protErr_two (a b : D) : protErr (.tup [a, b]) = if (!isNonB (headErr a)) = true then .tup [.str "head", headErr a] else mansErr b := rfl
theorem mansErr_tup (xs : List D) : mansErr (.tup xs) = if (decide (1 ≤ (xs.length : Int)) && decide ((xs.length : Int) ≤ 6)) = true then manScan 0 xs else .str "manners" := rfl
theorem two_of {x : D} (c : hasLen x 2 = true) : ∃ a b, x = .tup [a, b] := by
  cases x with
  | tup xs =>
    have h : ((xs.length : Nat) : Int) = 2 := by unfold hasLen at c; exact eq_of_beq c
    match xs, h with
    | [a, b], _ => exact ⟨a, b, rfl⟩
    | [], h => simp at h
    | [_], h => simp at h
    | _ :: _ :: _ :: _, h => simp at h; omega
  | _ => cases c
theorem protErr_len {x : D} (c : hasLen x 2 = false) : protErr x = .str "form" := by
  unfold protErr
  split
  · cases c
  · rfl
theorem Any.two {a b : D} (h : Any (.tup [a, b])) : Any a ∧ Any b := ⟨h.items rfl 0 a rfl, h.items rfl 1 b rfl⟩
theorem isTup_of {x : D} (h : isTupD x = true) : ∃ xs, x = .tup xs := by cases x <;> first | exact ⟨_, rfl⟩ | cases h
def B_protocol_error : SM :=
  sSeq (sIf (tmNot (mTru (mFn F_is_tuple_of [0, 1] [mVar 0, mC (.int 2)] []))) (sRet (mC (.str "form"))) (sNx))
  (sSeq (sAsg (mVar 0) (Tg.tup (.cons (.name 1) (.cons (.name 2) (.nil)))).m)
  (sSeq (sAsg (mFn F_head_error [0] [mVar 1] []) (gmName 3))
  (sSeq (sIf (mTst (mOp (cmpD .IsNot) (mVar 3) (mC (.non)))) (sRet (mTup [mC (.str "head"), mVar 3])) (sNx))
  (sSeq (sIf (tmOr (tmNot (mTru (mCall isiD [mVar 2, mC (.ty "tuple")]))) (tmNot (mTst (mChain .LtE .LtE (mC (.int 1)) (mCall lenD [mVar 2]) (mC (.int 6)))))) (sRet (mC (.str "manners"))) (sNx))
  (sSeq (sFor (imR1 (mCall lenD [mVar 2])) (Tg.name 4).m (sSeq (sAsg (mFn F_manner_error [0] [mOp ixD (mVar 2) (mVar 4)] []) (gmName 3))
  (sIf (mTst (mOp (cmpD .IsNot) (mVar 3) (mC (.non)))) (sRet (mTup [mC (.str "manner"), mVar 4, mVar 3])) (sNx))))
  (sRet (mC (.non))))))))
def F_protocol_error : FI := ⟨["value"], runBody 5 B_protocol_error⟩
theorem cf_is_tuple_of {a b : D} {st : Sto} : callF F_is_tuple_of [a, b] st = F_is_tuple_of.run [a, b] st := rfl
theorem cf_head_error {a : D} {st : Sto} : callF F_head_error [a] st = F_head_error.run [a] st := rfl
theorem cf_manner_error {a : D} {st : Sto} : callF F_manner_error [a] st = F_manner_error.run [a] st := rfl
theorem cf_protocol_error {a : D} {st : Sto} : callF F_protocol_error [a] st = F_protocol_error.run [a] st := rfl
theorem drop_cons {α : Type} {xs : List α} {j : Nat} {x : α} {r : List α} (h : x :: r = xs.drop j) : xs[j]? = some x ∧ r = xs.drop (j + 1) := by
  have lt : j < xs.length := by
    rcases Nat.lt_or_ge j xs.length with h' | h'
    · exact h'
    · rw [List.drop_eq_nil_of_le h'] at h; cases h
  rw [List.drop_eq_getElem_cons lt] at h
  injection h with h1 h2
  exact ⟨by rw [List.getElem?_eq_getElem lt, h1], h2⟩
theorem upto_at {n j : Nat} {x : D} (h : (upto n)[j]? = some x) : j < n ∧ x = .int (j : Nat) := by
  unfold upto at h
  rw [List.getElem?_map] at h
  by_cases c : j < n
  · rw [List.getElem?_range c] at h; exact ⟨c, (by simpa using h.symm)⟩
  · rw [List.getElem?_eq_none (by simpa using c)] at h; cases h
theorem pairs_at {xs : List D} {j : Nat} {x : D} (h : (pairsOf xs)[j]? = some x) : ∃ y, xs[j]? = some y ∧ x = .tup [.int (j : Nat), y] := by
  unfold pairsOf at h
  rw [List.getElem?_map] at h
  by_cases c : j < xs.length
  · rw [List.getElem?_range c] at h
    refine ⟨xs[j], List.getElem?_eq_getElem c, ?_⟩
    have get_ : xs.getD j .non = xs[j] := by rw [List.getD_eq_getElem?_getD, List.getElem?_eq_getElem c]; rfl
    rw [← get_]
    simpa using h.symm
  · rw [List.getElem?_eq_none (by simpa using c)] at h; cases h
theorem pairs_len (xs : List D) : (pairsOf xs).length = xs.length := by simp [pairsOf]
theorem manScan_drop {xs : List D} {j : Nat} {y : D} (h : xs[j]? = some y) : manScan j (xs.drop j) = if isNonB (manErr y) = true then manScan (j + 1) (xs.drop (j + 1)) else .tup [.str "manner", .int (j : Nat), manErr y] := by
  obtain ⟨lt, e⟩ := List.getElem?_eq_some_iff.mp h
  rw [List.drop_eq_getElem_cons lt, e]
  rfl
theorem protocol_error_w {x : D} {st : Sto} (h : Any x) : wR (F_protocol_error.run [x] st) (fun d st' => d = protErr x ∧ st' = st) nX := by
  rw [show F_protocol_error.run = runBody 5 B_protocol_error from rfl, w_body]
  unfold B_protocol_error
  wp_walk using cf_is_tuple_of, w_Chain, cGet_bl
  rw [is_tuple_run h, wR_ok]
  wp_walk
  cases c : hasLen x 2 with
  | false =>
    wp_walk using protErr_len c
    exact ⟨trivial, trivial⟩
  | true =>
    obtain ⟨a, b, rfl⟩ := two_of c
    obtain ⟨ha, hb⟩ := h.two
    wp_walk using cf_head_error
    rw [head_run ha, wR_ok]
    wp_walk
    cases c2 : isNonB (headErr a) with
    | false =>
      have e : protErr (.tup [a, b]) = .tup [.str "head", headErr a] := by rw [protErr_two, c2]; rfl
      wp_walk using e
      exact ⟨trivial, trivial⟩
    | true =>
      wp_walk
      rw [isi_tuple hb, wR_ok]
      wp_walk
      cases c3 : isTupD b with
      | false =>
        have e : protErr (.tup [a, b]) = .str "manners" := by
          rw [protErr_two, c2]
          cases b <;> first | rfl | cases c3
        wp_walk using e
        exact ⟨trivial, trivial⟩
      | true =>
        obtain ⟨xs, rfl⟩ := isTup_of c3
        have e : protErr (.tup [a, .tup xs]) = if (decide (1 ≤ (xs.length : Int)) && decide ((xs.length : Int) ≤ 6)) = true then manScan 0 xs else .str "manners" := by
          rw [protErr_two, c2, ← mansErr_tup]; rfl
        wp_walk using w_Chain, cGet_bl
        by_cases l1 : (1 : Int) ≤ (xs.length : Int)
        · by_cases l2 : (xs.length : Int) ≤ 6
          · have e2 : protErr (.tup [a, .tup xs]) = manScan 0 xs := by rw [e, decide_eq_true l1, decide_eq_true l2]; rfl
            wp_walk using l1, l2, decide_true
            refine w_For (i_range ?_)
            wp_walk using cf_manner_error
            refine ⟨xs.length, rfl, by omega, ?_⟩
            refine walk_w (fun r e st' => ∃ j u v, r = (upto xs.length).drop j ∧ j ≤ xs.length ∧ manScan 0 xs = manScan j (xs.drop j) ∧ e = [some (.tup [a, .tup xs]), some a, some (.tup xs), u, v] ∧ st' = st) ?hN _ _ st ⟨0, _, _, by rw [List.drop_zero], Nat.zero_le _, by rw [List.drop_zero], rfl, rfl⟩ ?step
            case hN =>
              rintro e st' ⟨j, u, v, hr, hj, hs, rfl, rfl⟩
              have jl : xs.length ≤ j := by
                have z := congrArg List.length hr
                rw [List.length_drop, upto_len] at z
                simp at z; omega
              wp_walk using e2, hs, List.drop_eq_nil_of_le jl
              exact ⟨rfl, trivial⟩
            case step =>
              rintro d r e st' _ ⟨j, u, v, hr, hj, hs, rfl, rfl⟩
              obtain ⟨h1, h2⟩ := drop_cons hr
              obtain ⟨lt, rfl⟩ := upto_at h1
              have at_ : xs[j]? = some xs[j] := List.getElem?_eq_getElem lt
              have data : Any xs[j] := hb.items rfl j _ at_
              wp_walk using cf_manner_error, ix_tup at_
              rw [manner_run data, wR_ok]
              wp_walk
              have sc := manScan_drop at_
              cases c4 : isNonB (manErr xs[j]) with
              | false =>
                rw [c4] at sc
                wp_walk using e2, hs, sc
                exact ⟨rfl, rfl⟩
              | true =>
                rw [c4] at sc
                wp_walk
                exact ⟨j + 1, _, _, h2, lt, by rw [hs, sc]; rfl, rfl, rfl⟩
          · have e2 : protErr (.tup [a, .tup xs]) = .str "manners" := by rw [e, decide_eq_true l1, decide_eq_false l2]; rfl
            wp_walk using l1, l2, decide_true, decide_false, e2
            exact ⟨trivial, trivial⟩
        · have e2 : protErr (.tup [a, .tup xs]) = .str "manners" := by rw [e, decide_eq_false l1]; rfl
          wp_walk using l1, decide_false, e2
          exact ⟨trivial, trivial⟩
theorem protocol_run {x : D} {st : Sto} (h : Any x) : F_protocol_error.run [x] st = .ok (protErr x) st := by
  obtain ⟨d, st', e, rfl, rfl⟩ := wR_get (protocol_error_w (st := st) h)
  exact e
/-! ### the laws' own look -/
theorem ix_two0 {a b : D} {st : Sto} : ixD (.tup [a, b]) (.int 0) st = .ok a st := rfl
theorem ix_two1 {a b : D} {st : Sto} : ixD (.tup [a, b]) (.int 1) st = .ok b st := rfl
def B_protocol_fault : SM :=
  sSeq (sIf (tmOr (tmNot (mTru (mCall isiD [mVar 0, mC (.ty "tuple")]))) (mTst (mOp (cmpD .NotEq) (mCall lenD [mVar 0]) (mC (.int 2))))) (sRet (mC (.str "form"))) (sNx))
  (sSeq (sIf (mTst (mOp (cmpD .IsNot) (mFn F_head_fault [0] [mOp ixD (mVar 0) (mC (.int 0))] []) (mC (.non)))) (sRet (mTup [mC (.str "head"), mFn F_head_fault [0] [mOp ixD (mVar 0) (mC (.int 0))] []])) (sNx))
  (sSeq (sIf (tmOr (tmNot (mTru (mCall isiD [mOp ixD (mVar 0) (mC (.int 1)), mC (.ty "tuple")]))) (tmNot (mTst (mChain .LtE .LtE (mC (.int 1)) (mCall lenD [mOp ixD (mVar 0) (mC (.int 1))]) (mC (.int 6)))))) (sRet (mC (.str "manners"))) (sNx))
  (sSeq (sFor (imEnum (mOp ixD (mVar 0) (mC (.int 1)))) (Tg.tup (.cons (.name 1) (.cons (.name 2) (.nil)))).m (sIf (mTst (mOp (cmpD .IsNot) (mFn F_manner_fault [0] [mVar 2] []) (mC (.non)))) (sRet (mTup [mC (.str "manner"), mVar 1, mFn F_manner_fault [0] [mVar 2] []])) (sNx)))
  (sRet (mC (.non))))))
def F_protocol_fault : FI := ⟨["value"], runBody 3 B_protocol_fault⟩
theorem cf_head_fault {a : D} {st : Sto} : callF F_head_fault [a] st = F_head_fault.run [a] st := rfl
theorem cf_manner_fault {a : D} {st : Sto} : callF F_manner_fault [a] st = F_manner_fault.run [a] st := rfl
theorem cf_protocol_fault {a : D} {st : Sto} : callF F_protocol_fault [a] st = F_protocol_fault.run [a] st := rfl
theorem protocol_fault_w {x : D} {st : Sto} (h : Any x) : wR (F_protocol_fault.run [x] st) (fun d st' => d = protErr x ∧ st' = st) nX := by
  rw [show F_protocol_fault.run = runBody 3 B_protocol_fault from rfl, w_body]
  unfold B_protocol_fault
  wp_walk using cf_head_fault, cf_manner_fault
  rw [isi_tuple h, wR_ok]
  wp_walk
  cases c0 : isTupD x with
  | false =>
    have e : protErr x = .str "form" := by cases x <;> first | rfl | cases c0
    wp_walk using e
    exact ⟨trivial, trivial⟩
  | true =>
    obtain ⟨zs, rfl⟩ := isTup_of c0
    wp_walk
    cases c : hasLen (.tup zs) 2 with
    | false =>
      have c' : ((zs.length : Int) == 2) = false := c
      wp_walk using c', protErr_len c
      exact ⟨trivial, trivial⟩
    | true =>
    have c' : ((zs.length : Int) == 2) = true := c
    wp_walk using c'
    obtain ⟨a, b, e⟩ := two_of c
    injection e with e
    subst e
    obtain ⟨ha, hb⟩ := h.two
    wp_walk using ix_two0, ix_two1, cf_head_fault
    rw [fault_run ha, wR_ok]
    wp_walk
    cases c2 : isNonB (headErr a) with
    | false =>
      have e : protErr (.tup [a, b]) = .tup [.str "head", headErr a] := by rw [protErr_two, c2]; rfl
      wp_walk using ix_two0, cf_head_fault
      rw [fault_run ha, wR_ok]
      wp_walk using e
      exact ⟨trivial, trivial⟩
    | true =>
      wp_walk using ix_two1
      rw [isi_tuple hb, wR_ok]
      wp_walk
      cases c3 : isTupD b with
      | false =>
        have e : protErr (.tup [a, b]) = .str "manners" := by
          rw [protErr_two, c2]
          cases b <;> first | rfl | cases c3
        wp_walk using e
        exact ⟨trivial, trivial⟩
      | true =>
        obtain ⟨xs, rfl⟩ := isTup_of c3
        have e : protErr (.tup [a, .tup xs]) = if (decide (1 ≤ (xs.length : Int)) && decide ((xs.length : Int) ≤ 6)) = true then manScan 0 xs else .str "manners" := by
          rw [protErr_two, c2, ← mansErr_tup]; rfl
        wp_walk using w_Chain, cGet_bl, ix_two1
        by_cases l1 : (1 : Int) ≤ (xs.length : Int)
        · by_cases l2 : (xs.length : Int) ≤ 6
          · have e2 : protErr (.tup [a, .tup xs]) = manScan 0 xs := by rw [e, decide_eq_true l1, decide_eq_true l2]; rfl
            wp_walk using l1, l2, decide_true
            refine w_For (i_enum ?_)
            wp_walk using cf_manner_fault, ix_two1
            refine ⟨xs, rfl, ?_⟩
            refine walk_w (fun r e st' => ∃ j u v, r = (pairsOf xs).drop j ∧ j ≤ xs.length ∧ manScan 0 xs = manScan j (xs.drop j) ∧ e = [some (.tup [a, .tup xs]), u, v] ∧ st' = st) ?hN _ _ st ⟨0, _, _, by rw [List.drop_zero], Nat.zero_le _, by rw [List.drop_zero], rfl, rfl⟩ ?step
            case hN =>
              rintro e st' ⟨j, u, v, hr, hj, hs, rfl, rfl⟩
              have jl : xs.length ≤ j := by
                have z := congrArg List.length hr
                rw [List.length_drop, pairs_len] at z
                simp at z; omega
              wp_walk using e2, hs, List.drop_eq_nil_of_le jl
              exact ⟨rfl, trivial⟩
            case step =>
              rintro d r e st' _ ⟨j, u, v, hr, hj, hs, rfl, rfl⟩
              obtain ⟨h1, h2⟩ := drop_cons hr
              obtain ⟨y, at_, rfl⟩ := pairs_at h1
              have lt : j < xs.length := (List.getElem?_eq_some_iff.mp at_).1
              have data : Any y := hb.items rfl j _ at_
              wp_walk using cf_manner_fault
              rw [manner_fault_run data, wR_ok]
              wp_walk
              have sc := manScan_drop at_
              cases c4 : isNonB (manErr y) with
              | false =>
                rw [c4] at sc
                wp_walk using cf_manner_fault
                rw [manner_fault_run data, wR_ok]
                wp_walk using e2, hs, sc
                exact ⟨rfl, rfl⟩
              | true =>
                rw [c4] at sc
                wp_walk
                exact ⟨j + 1, _, _, h2, lt, by rw [hs, sc]; rfl, rfl, rfl⟩
          · have e2 : protErr (.tup [a, .tup xs]) = .str "manners" := by rw [e, decide_eq_true l1, decide_eq_false l2]; rfl
            wp_walk using l1, l2, decide_true, decide_false, e2
            exact ⟨trivial, trivial⟩
        · have e2 : protErr (.tup [a, .tup xs]) = .str "manners" := by rw [e, decide_eq_false l1]; rfl
          wp_walk using l1, decide_false, e2
          exact ⟨trivial, trivial⟩
theorem protocol_fault_run {x : D} {st : Sto} (h : Any x) : F_protocol_fault.run [x] st = .ok (protErr x) st := by
  obtain ⟨d, st', e, rfl, rfl⟩ := wR_get (protocol_fault_w (st := st) h)
  exact e
theorem errAt_small (xs : List D) (h : xs.length = 3) : Sh 40 2 (errAt (firstOut qStrengths xs)) := sh_errAt h
theorem manScan_sh : ∀ (xs : List D) (i : Nat), i + xs.length ≤ 6 → Sh 200 4 (manScan i xs)
  | [], i, _ => show Sh 200 4 .non from sh_of (by decide +kernel)
  | x :: r, i, h => by
    unfold manScan
    split
    · exact manScan_sh r (i + 1) (by rw [List.length_cons] at h; omega)
    · have si : Sh 40 2 (.int (i : Nat)) := by
        have : i < 6 := by rw [List.length_cons] at h; omega
        match i, this with
        | 0, _ => exact sh_of (by decide +kernel)
        | 1, _ => exact sh_of (by decide +kernel)
        | 2, _ => exact sh_of (by decide +kernel)
        | 3, _ => exact sh_of (by decide +kernel)
        | 4, _ => exact sh_of (by decide +kernel)
        | 5, _ => exact sh_of (by decide +kernel)
      exact (Sh.tup (n := 40) (d := 2) (k := 3) (sh_all_cons (sh_of (by decide +kernel)) (sh_all_cons si (sh_all_cons (sh_manErr x) sh_all_nil))) (Nat.le_refl _)).mono (by decide) (by decide)
theorem sh_protErr (x : D) : Sh 200 4 (protErr x) := by
  unfold protErr
  split
  · split
    · exact (Sh.tup (n := 40) (d := 2) (k := 2) (sh_all_cons (sh_of (by decide +kernel)) (sh_all_cons (sh_headErr _) sh_all_nil)) (Nat.le_refl _)).mono (by decide) (by decide)
    · unfold mansErr
      split
      · split
        · rename_i c
          simp only [Bool.and_eq_true, decide_eq_true_eq] at c
          exact manScan_sh _ 0 (by omega)
        · exact sh_of (by decide +kernel)
      · exact sh_of (by decide +kernel)
  · exact sh_of (by decide +kernel)
/-! ### tuples repeated -/
theorem mul_tup {xs : List D} {n : Nat} {st : Sto} (hx : xs ≠ []) (h1 : 1 ≤ n) (hn : n ≤ 1000) (hl : xs.length ≤ 1000) : mulD (.tup xs) (.int (n : Nat)) st = .ok (.tup (List.replicate n xs).flatten) st := by
  show (if ((n : Nat) : Int) = 1 then R.ok (D.tup xs) st else if xs ≠ [] ∧ 2 ≤ ((n : Nat) : Int) ∧ ((n : Nat) : Int) ≤ 1000 ∧ xs.length ≤ 1000 then .ok (.tup (List.replicate ((n : Nat) : Int).toNat xs).flatten) st else .no) = _
  by_cases c : n = 1
  · subst c
    rw [if_pos (show ((1 : Nat) : Int) = 1 from rfl)]
    simp
  · rw [if_neg (by omega), if_pos ⟨hx, by omega, by omega, hl⟩, Int.toNat_natCast]
theorem rep_mem {xs : List D} {n : Nat} {x : D} (h : x ∈ (List.replicate n xs).flatten) : x ∈ xs := by
  obtain ⟨l, h1, h2⟩ := List.mem_flatten.mp h
  rw [(List.mem_replicate.mp h1).2] at h2
  exact h2
theorem rep_len (xs : List D) (n : Nat) : (List.replicate n xs).flatten.length = n * xs.length := by
  induction n with
  | zero => simp
  | succ n ih => rw [List.replicate_succ, List.flatten_cons, List.length_append, ih, Nat.succ_mul]; omega
end DX

/-! DxZ: any law's draws; lists of the store. -/
set_option linter.all false
set_option maxRecDepth 100000
set_option Elab.async false
namespace DX
open PySem PySem.Spec PyProof.Rows L2
local macro_rules | `(tactic| wp_walk) => `(tactic| try simp only [w_C, w_Var, vGet_some, w_Lnil, w_Lcons, w_Op, w_Call, w_Tup, w_Lst, w_LstT, w_Fn, w_If, w_Tst, tGet_bl, w_Tru, uGet_some, w_tAnd, w_tOr, w_tNot, w_And, w_Or, w_Not, w_Slice, w_pN, w_pS, iGet_int, w_Neg, w_Back, w_EdF, w_EdT, w_Seq, w_sNx, w_Expr, w_Ret, w_sIf, w_Asg, g_name, gGet_some, w_Par, w_Par3, retP_nx, retP_rt, retP_ex, wS_nx, wS_bk, wS_ct, wS_rt, wR_ok, wR_bind, List.getElem?_cons_zero, List.getElem?_cons_succ, List.set_cons_zero, List.set_cons_succ, pick, List.filterMap_cons, List.filterMap_nil, List.cons_append, List.nil_append, List.append_nil, if_true, if_false, Bool.false_eq_true, Bool.not_true, Bool.not_false, List.length_cons, List.length_nil, List.replicate_succ, List.replicate_zero, Nat.reduceSub, List.map_cons, List.map_nil, fits_small, add_lst, add_tup, DX.add_int, DX.sub_int, eq_ii, ne_ii, newC_f, tru_bl, tru_int, tupleD_lst, tupleD_tup, listD_lst, listD_tup, lenD_lst, lenD_tup, back_tup, back_lst, slice_tup, slice_lst, cmp_lt, cmp_le, cmp_gt, cmp_ge, int_int, int_bl, cmp_isnon, cmp_isnotnon, Nat.reduceAdd, Nat.reduceLeDiff, decide_eq_true_eq, asg_name, mLst_nil, cutL_to, cutL_from, cst1, asg_two, tg_two, tg_three, gm_tg, wipeE, notT_eq, Bool.true_eq_false, le_lim])
local macro_rules | `(tactic| wp_walk using $ls,*) => `(tactic| try simp only [w_C, w_Var, vGet_some, w_Lnil, w_Lcons, w_Op, w_Call, w_Tup, w_Lst, w_LstT, w_Fn, w_If, w_Tst, tGet_bl, w_Tru, uGet_some, w_tAnd, w_tOr, w_tNot, w_And, w_Or, w_Not, w_Slice, w_pN, w_pS, iGet_int, w_Neg, w_Back, w_EdF, w_EdT, w_Seq, w_sNx, w_Expr, w_Ret, w_sIf, w_Asg, g_name, gGet_some, w_Par, w_Par3, retP_nx, retP_rt, retP_ex, wS_nx, wS_bk, wS_ct, wS_rt, wR_ok, wR_bind, List.getElem?_cons_zero, List.getElem?_cons_succ, List.set_cons_zero, List.set_cons_succ, pick, List.filterMap_cons, List.filterMap_nil, List.cons_append, List.nil_append, List.append_nil, if_true, if_false, Bool.false_eq_true, Bool.not_true, Bool.not_false, List.length_cons, List.length_nil, List.replicate_succ, List.replicate_zero, Nat.reduceSub, List.map_cons, List.map_nil, fits_small, add_lst, add_tup, DX.add_int, DX.sub_int, eq_ii, ne_ii, newC_f, tru_bl, tru_int, tupleD_lst, tupleD_tup, listD_lst, listD_tup, lenD_lst, lenD_tup, back_tup, back_lst, slice_tup, slice_lst, cmp_lt, cmp_le, cmp_gt, cmp_ge, int_int, int_bl, cmp_isnon, cmp_isnotnon, Nat.reduceAdd, Nat.reduceLeDiff, decide_eq_true_eq, asg_name, mLst_nil, cutL_to, cutL_from, cst1, asg_two, tg_two, tg_three, gm_tg, wipeE, notT_eq, Bool.true_eq_false, le_lim, $[$ls:term],*])

/-! ### what stays as it was -/
/-- nothing from k on has changed -/
structure Frm (k : Nat) (st st' : Sto) : Prop where
  len : st.length ≤ st'.length
  keep : ∀ i, k ≤ i → i < st.length → st'[i]? = st[i]?
theorem Frm.refl {k : Nat} {st : Sto} : Frm k st st := ⟨Nat.le_refl _, fun _ _ _ => rfl⟩
theorem Frm.trans {k : Nat} {a b c : Sto} (h : Frm k a b) (g : Frm k b c) : Frm k a c :=
  ⟨Nat.le_trans h.len g.len, fun i h1 h2 => (g.keep i h1 (Nat.lt_of_lt_of_le h2 h.len)).trans (h.keep i h1 h2)⟩
theorem Frm.push {k : Nat} {st : Sto} (o : List O) : Frm k st (st ++ o) := ⟨by rw [List.length_append]; omega, fun i _ h => List.getElem?_append_left h⟩
theorem Frm.of_app {k : Nat} {st st' : Sto} {o : List O} (h : Frm k (st ++ o) st') : Frm k st st' := (Frm.push o).trans h
/-- an object that is there stays -/
theorem Frm.get {k i : Nat} {st st' : Sto} {o : O} (h : Frm k st st') (hk : k ≤ i) (e : st[i]? = some o) : st'[i]? = some o := by
  rw [h.keep i hk (List.getElem?_eq_some_iff.mp e).1]; exact e
/-- a law's draws: the def F over a deck at 0, whose objects lie below k -/
structure Drw (F : FI) (k : Nat) (I : Sto → Prop) : Prop where
  ps : F.ps.length = 2
  run : ∀ {st : Sto} {many : Int}, I st → many < 1073741824 → ∃ r st', F.run [.loc 0, .int many] st = .ok (.int r) st' ∧ I st' ∧ Frm k st st' ∧ (many < 2 → r = 0) ∧ (2 ≤ many → 0 ≤ r ∧ r < many)
  len : ∀ {st : Sto}, I st → k ≤ st.length
  low : ∀ {st st' : Sto}, I st → (∀ i, i < k → st'[i]? = st[i]?) → I st'
theorem Drw.push {F : FI} {k : Nat} {I : Sto → Prop} (d : Drw F k I) {st : Sto} (h : I st) (o : List O) : I (st ++ o) :=
  d.low h fun i hi => List.getElem?_append_left (Nat.lt_of_lt_of_le hi (d.len h))
theorem Drw.set {F : FI} {k : Nat} {I : Sto → Prop} (d : Drw F k I) {st : Sto} (h : I st) {i : Nat} (hi : k ≤ i) (o : O) : I (st.set i o) :=
  d.low h fun j hj => List.getElem?_set_ne (by omega)
/-- the deck is there still; what lies from k on is as it was -/
structure DO (k : Nat) (I : Sto → Prop) (st st' : Sto) : Prop where
  deck : I st'
  frm : Frm k st st'
theorem DO.refl {k : Nat} {I : Sto → Prop} {st : Sto} (h : I st) : DO k I st st := ⟨h, .refl⟩
theorem DO.trans {k : Nat} {I : Sto → Prop} {a b c : Sto} (h : DO k I a b) (g : DO k I b c) : DO k I a c := ⟨g.deck, h.frm.trans g.frm⟩
section
variable {F : FI} {k : Nat} {I : Sto → Prop} {st : Sto} {Q : D → Sto → Prop} {X : XP}
theorem Drw.w (d : Drw F k I) {many : Int} (hB : I st) (hm : many < 1073741824) (kk : ∀ (r : Int) st', DO k I st st' → (many < 2 → r = 0) → (2 ≤ many → 0 ≤ r ∧ r < many) → Q (.int r) st') : wR (F.run [.loc 0, .int many] st) Q X := by
  obtain ⟨r, st', h1, h2, h3, h4, h5⟩ := d.run hB hm
  rw [h1, wR_ok]
  exact kk r st' ⟨h2, h3⟩ h4 h5
theorem Drw.nat (d : Drw F k I) {many : Nat} (hB : I st) (h0 : 0 < many) (hm : many ≤ 1000) (kk : ∀ (r : Nat) st', DO k I st st' → r < many → Q (.int (r : Nat)) st') : wR (F.run [.loc 0, .int (many : Nat)] st) Q X := by
  refine d.w hB (by omega) fun r st' b h1 h2 => ?_
  have h : 0 ≤ r ∧ r < many := by
    by_cases c : (many : Int) < 2
    · rw [h1 c]; omega
    · exact h2 (by omega)
  have z := kk r.toNat st' b (by omega)
  rwa [Int.toNat_of_nonneg h.1] at z
def B_pickG (F : FI) : SM := sRet (mOp ixD (mVar 1) (mFn F [0, 1] [mVar 0, mCall lenD [mVar 1]] []))
def F_pickG (F : FI) : FI := ⟨["deck", "items"], runBody 2 (B_pickG F)⟩
theorem Drw.pick_seq (dr : Drw F k I) {d : D} {xs : List D} (hd : ofSeq d = some xs) (hB : I st) (hx : xs ≠ []) (hl : xs.length ≤ 1000) (kk : ∀ (x : D) st', x ∈ xs → DO k I st st' → Q x st') : wR (runBody 2 (B_pickG F) [.loc 0, d] st) Q X := by
  have h0 : 0 < xs.length := List.length_pos_iff.mpr hx
  rw [w_body]
  unfold B_pickG
  wp_walk
  rw [len_seq hd, wR_ok, callF_ok (by rw [dr.ps]; rfl)]
  refine dr.nat hB h0 hl fun r st' b hr => ?_
  rw [ix_seq hd (List.getElem?_eq_getElem hr), wR_ok]
  exact kk _ _ (List.getElem_mem _) b
theorem Drw.pick (dr : Drw F k I) {xs : List D} (hB : I st) (hx : xs ≠ []) (hl : xs.length ≤ 1000) (kk : ∀ (x : D) st', x ∈ xs → DO k I st st' → Q x st') : wR (runBody 2 (B_pickG F) [.loc 0, .lst xs] st) Q X := dr.pick_seq rfl hB hx hl kk
theorem Drw.pick_m (dr : Drw F k I) {α : Type} (ys : List α) (f : α → D) {d : D} {xs : List D} (hd : ofSeq d = some xs) (e : xs = ys.map f) (hB : I st) (hx : xs ≠ []) (hl : xs.length ≤ 1000) (kk : ∀ (y : α) st', y ∈ ys → DO k I st st' → Q (f y) st') : wR (runBody 2 (B_pickG F) [.loc 0, d] st) Q X := by
  refine dr.pick_seq hd hB hx hl fun x st' hm b => ?_
  rw [e] at hm
  obtain ⟨y, hy, rfl⟩ := List.mem_map.mp hm
  exact kk y st' hy b
end
/-- one statement by what is known behind it -/
theorem w_cut {a b : SM} {e : Sl} {st : Sto} {P : Po} (I : Sl → Sto → Prop) (h1 : wS (a e st) { P with nx := I }) (h2 : ∀ e st, I e st → wS (b e st) P) : wS (sSeq a b e st) P := by
  rw [w_Seq]
  exact wS_mono h1 h2 (fun _ _ h => h) (fun _ _ h => h) (fun _ _ h => h) (fun _ _ _ _ h => h)
theorem newC_t {xs : List D} {st : Sto} : newC true xs st = .ok (.loc st.length) (st ++ [.lst xs]) := rfl
/-! ### lists of the store -/
section
variable {e : Sl} {st : Sto} {Q : D → Sto → Prop} {X : XP}
def lGet (o : Option (Nat × List D)) (K : Nat → Prop) : Prop := match o with
  | some (n, _) => K n
  | none => False
def oGet (o : Option O) (K : List D → Prop) : Prop := match o with
  | some (.lst xs) => K xs
  | _ => False
theorem lGet_some (n : Nat) (xs : List D) (K : Nat → Prop) : lGet (some (n, xs)) K = K n := rfl
theorem oGet_some (xs : List D) (K : List D → Prop) : oGet (some (.lst xs)) K = K xs := rfl
theorem w_Meth (f : Nat → List D → List D → Sto → R D) (o : EM) (ms : List EM) : wR (mMeth f o ms e st) Q X = wR (o e st) (fun d st1 => lGet (lstOf st1 d) fun n => wR (mL ms e st1) (fun ds st2 => oGet st2[n]? fun xs => wR (f n xs ds st2) Q X) X) X := by
  show wR ((o e st).bind _) Q X = _
  rw [wR_bind]
  congr 1
  funext d st1
  cases lstOf st1 d with
  | none => simp only [wR_iff]; rfl
  | some p =>
    obtain ⟨n, ys⟩ := p
    rw [lGet_some]
    show wR ((mL ms e st1).bind _) Q X = _
    rw [wR_bind]
    congr 1
    funext ds st2
    cases st2[n]? with
    | none => simp only [wR_iff]; rfl
    | some o => cases o with
      | lst xs => rfl
      | _ => simp only [wR_iff]; rfl
theorem lstOf_loc {n : Nat} {xs : List D} (h : st[n]? = some (.lst xs)) : lstOf st (.loc n) = some (n, xs) := by simp only [lstOf, h]
theorem items_loc {n : Nat} {xs : List D} (h : st[n]? = some (.lst xs)) : items st (.loc n) = some xs := by simp only [items, h]
theorem append_lim {n : Nat} {xs : List D} {y : D} (h : xs.length + 1 ≤ lim) : appendD n xs [y] st = .ok .non (st.set n (.lst (xs ++ [y]))) := append_ev (Nat.lt_of_lt_of_le (Nat.lt_of_succ_le h) lim_sz)
theorem extend_lim {n m : Nat} {xs ys : List D} (hm : st[m]? = some (.lst ys)) (h : xs.length + ys.length ≤ lim) : extendD n xs [.loc m] st = .ok .non (st.set n (.lst (xs ++ ys))) := by
  simp only [extendD, hm]
  rw [if_pos (Nat.le_trans h lim_sz)]
theorem add_loc {n : Nat} {xs ys : List D} (hn : st[n]? = some (.lst xs)) (h : xs.length + ys.length ≤ lim) : addD false (.loc n) (.lst ys) st = .ok (.lst (xs ++ ys)) st := by
  show (match items st (.loc n), items st (.lst ys) with
    | some xs, some ys => if xs.length + ys.length ≤ sizeLine then newL false (xs ++ ys) st else .no
    | _, _ => .no) = _
  rw [items_loc hn]
  show (if xs.length + ys.length ≤ sizeLine then newL false (xs ++ ys) st else .no) = _
  rw [if_pos (Nat.le_trans h lim_sz)]
  rfl
theorem tupleD_loc {n : Nat} {xs : List D} (hn : st[n]? = some (.lst xs)) : tupleD [.loc n] st = .ok (.tup xs) st := by
  show (match items st (.loc n) with
    | some xs => R.ok (D.tup xs) st
    | none => .no) = _
  rw [items_loc hn]
/-- a store with objects put behind: st ++ L -/
theorem app0 (L : List O) : (st ++ L)[st.length]? = L[0]? := by
  rw [List.getElem?_append_right (Nat.le_refl _), Nat.sub_self]
theorem appN (L : List O) (i : Nat) : (st ++ L)[st.length + i]? = L[i]? := by
  rw [List.getElem?_append_right (by omega), Nat.add_sub_cancel_left]
theorem set0 (L : List O) (o : O) : (st ++ L).set st.length o = st ++ L.set 0 o := by
  rw [List.set_append_right _ _ (Nat.le_refl _), Nat.sub_self]
theorem setN (L : List O) (o : O) (i : Nat) : (st ++ L).set (st.length + i) o = st ++ L.set i o := by
  rw [List.set_append_right _ _ (by omega), Nat.add_sub_cancel_left]
/-- sorted, the text that is sorted being data -/
theorem sortD_ev {d : D} {xs : List D} {ps : List PyData} (h1 : items st d = some xs) (h2 : pds xs = some ps) (h3 : alikeAllB ps = true) (h4 : sortableB ps = true) (h5 : ps.all (fun p => decide (p.depth ≤ 60)) = true) : sortD [d] st = .ok (.lst (xs.mergeSort leD)) st := by
  unfold sortD
  simp only [h1, h2, h3, h4, h5, Bool.and_self, Bool.true_or, if_true]
/-- texts -/
theorem pds_strs : ∀ ss : List Str, pds (ss.map D.str) = some (ss.map PyData.str)
  | [] => rfl
  | s :: ss => by
    rw [List.map_cons]
    unfold pds
    rw [pds_strs ss]
    rfl
theorem sort_strs {d : D} {ss : List Str} (h1 : items st d = some (ss.map D.str)) : sortD [d] st = .ok (.lst ((ss.map D.str).mergeSort leD)) st := by
  refine sortD_ev h1 (pds_strs ss) ?_ ?_ ?_
  · unfold alikeAllB
    rw [List.all_map, List.all_eq_true]
    intro s _
    show (List.all (ss.map PyData.str) fun q => PySem.W.alike (.str s) q) = true
    rw [List.all_map, List.all_eq_true]
    intro t _
    rfl
  · unfold sortableB
    rw [Bool.or_eq_true]
    right
    rw [List.all_map, List.all_eq_true]
    intro t _
    rfl
  · rw [List.all_map, List.all_eq_true]
    intro t _
    show decide (PyData.depth (.str t) ≤ 60) = true
    unfold PyData.depth
    rfl
end
end DX

/-! DxDk: the decks (deep, state). -/
set_option linter.all false
set_option maxRecDepth 100000
set_option Elab.async false
namespace DX
open PySem PySem.Spec PyProof.Rows L2
local macro_rules | `(tactic| wp_walk) => `(tactic| try simp only [w_C, w_Var, vGet_some, w_Lnil, w_Lcons, w_Op, w_Call, w_Tup, w_Lst, w_LstT, w_Fn, w_If, w_Tst, tGet_bl, w_Tru, uGet_some, w_tAnd, w_tOr, w_tNot, w_And, w_Or, w_Not, w_Slice, w_pN, w_pS, iGet_int, w_Neg, w_Back, w_EdF, w_EdT, w_Seq, w_sNx, w_Expr, w_Ret, w_sIf, w_Asg, g_name, gGet_some, w_Par, w_Par3, retP_nx, retP_rt, retP_ex, wS_nx, wS_bk, wS_ct, wS_rt, wR_ok, wR_bind, List.getElem?_cons_zero, List.getElem?_cons_succ, List.set_cons_zero, List.set_cons_succ, pick, List.filterMap_cons, List.filterMap_nil, List.cons_append, List.nil_append, List.append_nil, if_true, if_false, Bool.false_eq_true, Bool.not_true, Bool.not_false, List.length_cons, List.length_nil, List.replicate_succ, List.replicate_zero, Nat.reduceSub, List.map_cons, List.map_nil, fits_small, add_lst, add_tup, DX.add_int, DX.sub_int, eq_ii, ne_ii, newC_f, tru_bl, tru_int, tupleD_lst, tupleD_tup, listD_lst, listD_tup, lenD_lst, lenD_tup, back_tup, back_lst, slice_tup, slice_lst, cmp_lt, cmp_le, cmp_gt, cmp_ge, int_int, int_bl, cmp_isnon, cmp_isnotnon, Nat.reduceAdd, Nat.reduceLeDiff, decide_eq_true_eq, asg_name, mLst_nil, cutL_to, cutL_from, cst1, asg_two, tg_two, tg_three, gm_tg, wipeE, notT_eq, Bool.true_eq_false, le_lim])
local macro_rules | `(tactic| wp_walk using $ls,*) => `(tactic| try simp only [w_C, w_Var, vGet_some, w_Lnil, w_Lcons, w_Op, w_Call, w_Tup, w_Lst, w_LstT, w_Fn, w_If, w_Tst, tGet_bl, w_Tru, uGet_some, w_tAnd, w_tOr, w_tNot, w_And, w_Or, w_Not, w_Slice, w_pN, w_pS, iGet_int, w_Neg, w_Back, w_EdF, w_EdT, w_Seq, w_sNx, w_Expr, w_Ret, w_sIf, w_Asg, g_name, gGet_some, w_Par, w_Par3, retP_nx, retP_rt, retP_ex, wS_nx, wS_bk, wS_ct, wS_rt, wR_ok, wR_bind, List.getElem?_cons_zero, List.getElem?_cons_succ, List.set_cons_zero, List.set_cons_succ, pick, List.filterMap_cons, List.filterMap_nil, List.cons_append, List.nil_append, List.append_nil, if_true, if_false, Bool.false_eq_true, Bool.not_true, Bool.not_false, List.length_cons, List.length_nil, List.replicate_succ, List.replicate_zero, Nat.reduceSub, List.map_cons, List.map_nil, fits_small, add_lst, add_tup, DX.add_int, DX.sub_int, eq_ii, ne_ii, newC_f, tru_bl, tru_int, tupleD_lst, tupleD_tup, listD_lst, listD_tup, lenD_lst, lenD_tup, back_tup, back_lst, slice_tup, slice_lst, cmp_lt, cmp_le, cmp_gt, cmp_ge, int_int, int_bl, cmp_isnon, cmp_isnotnon, Nat.reduceAdd, Nat.reduceLeDiff, decide_eq_true_eq, asg_name, mLst_nil, cutL_to, cutL_from, cst1, asg_two, tg_two, tg_three, gm_tg, wipeE, notT_eq, Bool.true_eq_false, le_lim, $[$ls:term],*])
section
variable {e : Sl} {st : Sto} {Q : D → Sto → Prop} {X : XP} {P : Po}
theorem w_DGet (a b : EM) : wR (mDGet a b e st) Q X = wR (a e st) (fun x st1 => wR (b e st1) (fun y st2 => wR (dgetD x y st2) Q X) X) X := by
  show wR ((a e st).bind _) Q X = _
  rw [wR_bind]
  congr 1
  funext x st1
  rw [wR_bind]
def dpGet (o : Option (Nat × List (Key × D))) (k : Option Key) (y : D) (N : Sto → Prop) (st : Sto) : Prop := match o, k with
  | some (n, kvs), some kk => if kvs.length < sizeLine then N (st.set n (.dct (putD kvs kk y))) else False
  | _, _ => False
theorem w_DPut (a b v : EM) : wS (sDPutM a b v e st) P = wR (v e st) (fun y st1 => wR (a e st1) (fun x st2 => wR (b e st2) (fun k st3 => dpGet (dctOf st3 x) (keyOf k) y (fun st' => P.nx e st') st3) (fun c fs st => P.ex c fs e st)) (fun c fs st => P.ex c fs e st)) (fun c fs st => P.ex c fs e st) := by
  show wS ((v e st).s e _) P = _
  rw [wS_s]
  congr 1
  funext y st1
  rw [wS_s]
  congr 1
  funext x st2
  rw [wS_s]
  congr 1
  funext k st3
  unfold dpGet
  cases dctOf st3 x with
  | none => simp only [wS_iff]; rfl
  | some p =>
    obtain ⟨n, kvs⟩ := p
    cases keyOf k with
    | none => simp only [wS_iff]; rfl
    | some kk =>
      show wS (if kvs.length < sizeLine then _ else _) P = if kvs.length < sizeLine then _ else False
      rw [wS_ite]
      by_cases c : kvs.length < sizeLine
      · rw [if_pos c, if_pos c]; exact wS_nx
      · rw [if_neg c, if_neg c]; simp only [wS_iff]; rfl
theorem dpGet_ev {n : Nat} {kvs : List (Key × D)} {x : Str} {y : D} {N : Sto → Prop} (h : st[n]? = some (.dct kvs)) (hl : kvs.length ≤ 100) : dpGet (dctOf st (.loc n)) (keyOf (.str x)) y N st = N (st.set n (.dct (putD kvs (.inr x) y))) := by
  simp only [dpGet, dctOf, h, keyOf]
  exact if_pos (Nat.lt_of_le_of_lt hl (by decide))
end
def deckD (m : Nat) (s : Int) : O := .dct [(.inr "deep", .loc m), (.inr "state", .int s)]
structure Dk (k : Nat) (st : Sto) : Prop where
  ex : ∃ (m : Nat) (deep : List Int) (s : Int), 1 ≤ m ∧ m < k ∧ k ≤ st.length ∧ st[0]? = some (deckD m s) ∧ st[m]? = some (.lst (deep.map D.int)) ∧ deep.length ≤ 63
theorem deep_of {m : Nat} {s : Int} : valD [(.inr "deep", .loc m), (.inr "state", .int s)] (.inr "deep") = some (.loc m) := rfl
theorem state_of {m : Nat} {s : Int} : valD [(.inr "deep", .loc m), (.inr "state", .int s)] (.inr "state") = some (.int s) := rfl
theorem put_state {m : Nat} {s d : Int} : putD [(.inr "deep", .loc m), (.inr "state", .int s)] (.inr "state") (.int d) = [(.inr "deep", .loc m), (.inr "state", .int d)] := rfl
theorem put_deep {m n : Nat} {s : Int} : putD [(.inr "deep", .loc m), (.inr "state", .int s)] (.inr "deep") (.loc n) = [(.inr "deep", .loc n), (.inr "state", .int s)] := rfl
def B_ddraw : SM :=
  sSeq (sIf (mTst (mOp (cmpD .Lt) (mVar 1) (mC (.int 2)))) (sRet (mC (.int 0))) (sNx))
  (sSeq (sIf (mTst (mOp (cmpD .NotEq) (mDGet (mVar 0) (mC (.str "deep"))) (mLst false []))) (sSeq (sAsg (mMeth popD (mDGet (mVar 0) (mC (.str "deep"))) []) (gmName 2))
  (sSeq (sIf (mTst (mOp (cmpD .GtE) (mVar 2) (mVar 1))) (sExpr (mMeth appendD (mDGet (mVar 0) (mC (.str "deep"))) [mOp (arD .FloorDiv) (mVar 2) (mVar 1)])) (sNx))
  (sRet (mOp (arD .Mod) (mCall intD [mVar 2]) (mVar 1))))) (sNx))
  (sSeq (sAsg (mOp (arD .Mod) (mCall intD [mOp (addD false) (mOp mulD (mDGet (mVar 0) (mC (.str "state"))) (mC (.int 1181783497276652981))) (mC (.int 88172645463325))]) (mC (.int 2305843009213693951))) (gmName 3))
  (sSeq (sDPutM (mVar 0) (mC (.str "state")) (mVar 3))
  (sSeq (sAsg (mOp (arD .Mod) (mCall intD [mOp (addD false) (mOp (addD false) (mOp mulD (mVar 3) (mVar 3)) (mOp mulD (mC (.int 374761393)) (mVar 3))) (mC (.int 11))]) (mC (.int 2305843009213693921))) (gmName 4))
  (sRet (mOp (arD .Mod) (mCall intD [mOp (arD .FloorDiv) (mVar 4) (mC (.int 1048576))]) (mVar 1)))))))
def F_ddraw : FI := ⟨["deck", "many"], runBody 5 B_ddraw⟩
theorem popD_last {n : Nat} {xs : List D} {y : D} {st : Sto} : popD n (xs ++ [y]) [] st = .ok y (st.set n (.lst xs)) := by
  have h : (xs ++ [y])[(xs ++ [y]).length - 1]? = some y := by
    rw [List.length_append, List.length_singleton, Nat.add_sub_cancel, List.getElem?_append_right (Nat.le_refl _), Nat.sub_self]; rfl
  simp only [popD, h, List.dropLast_concat]
theorem ddraw_run {k : Nat} {st : Sto} {many : Int} (hB : Dk k st) (hm : many < 1073741824) :
    ∃ r st', F_ddraw.run [.loc 0, .int many] st = .ok (.int r) st' ∧ Dk k st' ∧ Frm k st st' ∧ (many < 2 → r = 0) ∧ (2 ≤ many → 0 ≤ r ∧ r < many) := by
  obtain ⟨m, deep, s, h1, hk, hkl, h0, hmm, hl⟩ := hB
  have ml : m < st.length := Nat.lt_of_lt_of_le hk hkl
  have zl : 0 < st.length := by omega
  by_cases h2 : many < 2
  · have w : wR (F_ddraw.run [.loc 0, .int many] st) (fun d st' => d = .int 0 ∧ st' = st) nX := by
      rw [show F_ddraw.run = runBody 5 B_ddraw from rfl, w_body]
      unfold B_ddraw
      wp_walk using h2, decide_true
      exact ⟨trivial, trivial⟩
    obtain ⟨d, st', e, rfl, rfl⟩ := wR_get w
    exact ⟨0, st', e, ⟨m, deep, s, h1, hk, hkl, h0, hmm, hl⟩, .refl, fun _ => rfl, fun h => by omega⟩
  · have hp : (0 : Int) < many := by omega
    have nz := ne_nil hmm (pds_ints deep) (lay_ints deep)
    have g0 : dgetD (.loc 0) (.str "deep") st = .ok (.loc m) st := dget_dct h0 deep_of
    have g1 : dgetD (.loc 0) (.str "state") st = .ok (.int s) st := dget_dct h0 state_of
    have w : wR (F_ddraw.run [.loc 0, .int many] st) (fun d st' => ∃ r, d = .int r ∧ Dk k st' ∧ Frm k st st' ∧ 0 ≤ r ∧ r < many) nX := by
      rw [show F_ddraw.run = runBody 5 B_ddraw from rfl, w_body]
      unfold B_ddraw
      wp_walk using h2, decide_false, w_DGet, w_Meth, g0, nz, lstOf_loc hmm, lGet_some
      rcases List.eq_nil_or_concat deep with rfl | ⟨ini, f, rfl⟩
      · wp_walk using List.isEmpty_nil, w_DGet, g1
        rw [mul_int (.inr ⟨by decide, by decide⟩)]
        wp_walk
        rw [mod_int (by decide)]
        wp_walk using w_DPut, deckD
        generalize hx : (s * 1181783497276652981 + 88172645463325) % 2305843009213693951 = x
        have x0 : 0 ≤ x ∧ x < 2305843009213693951 := by rw [← hx]; exact ⟨Int.emod_nonneg _ (by decide), Int.emod_lt_of_pos _ (by decide)⟩
        rw [dpGet_ev h0 (by simp)]
        wp_walk
        have m1 : ∀ st, mulD (.int x) (.int x) st = .ok (.int (x * x)) st := fun st => mul_int (.inl ⟨by omega, by omega⟩)
        have m2 : ∀ st, mulD (.int 374761393) (.int x) st = .ok (.int (374761393 * x)) st := fun st => mul_int (.inl ⟨by decide, by decide⟩)
        wp_walk using m1, m2, mod_int (show (0 : Int) < 2305843009213693921 by decide), mod_int hp, div_int (show (0 : Int) < 1048576 by decide) (by decide)
        refine ⟨_, rfl, ⟨m, [], x, h1, hk, by rw [List.length_set]; exact hkl, ?_, ?_, by decide⟩, ⟨by rw [List.length_set]; exact Nat.le_refl _, fun i hi _ => List.getElem?_set_ne (by omega)⟩, Int.emod_nonneg _ (by omega), Int.emod_lt_of_pos _ hp⟩
        · rw [List.getElem?_set_self zl, put_state]; rfl
        · rw [List.getElem?_set_ne (by omega)]; exact hmm
      · rw [List.concat_eq_append] at hmm hl
        rw [List.map_append] at hmm
        have ne : (ini.map D.int ++ [D.int f]).isEmpty = false := by simp
        have hl' : ini.length ≤ 62 := by rw [List.length_append] at hl; simp at hl; omega
        have e1 : List.map D.int (ini.concat f) = ini.map D.int ++ [D.int f] := by rw [List.concat_eq_append, List.map_append]; rfl
        rw [e1]
        have o1 : ∀ K, oGet st[m]? K = K (ini.map D.int ++ [D.int f]) := fun K => by rw [hmm]; rfl
        have h01 : (st.set m (.lst (ini.map D.int)))[0]? = some (deckD m s) := by rw [List.getElem?_set_ne (by omega)]; exact h0
        have m1 : (st.set m (.lst (ini.map D.int)))[m]? = some (.lst (ini.map D.int)) := List.getElem?_set_self ml
        have g2 : dgetD (.loc 0) (.str "deep") (st.set m (.lst (ini.map D.int))) = .ok (.loc m) (st.set m (.lst (ini.map D.int))) := dget_dct h01 deep_of
        have o2 : ∀ K, oGet (st.set m (.lst (ini.map D.int)))[m]? K = K (ini.map D.int) := fun K => by rw [m1]; rfl
        have lm : (ini.map D.int).length + 1 ≤ lim := le_lim (by rw [List.length_map]; omega)
        wp_walk using ne, o1, popD_last, g2, lstOf_loc m1, lGet_some, div_int hp hm, o2, append_lim lm, mod_int hp
        by_cases hf : many ≤ f
        · wp_walk using hf
          refine ⟨_, rfl, ⟨m, ini ++ [f / many], s, h1, hk, by simp; exact hkl, ?_, ?_, by rw [List.length_append]; simp; omega⟩, ⟨by simp, fun i hi _ => by rw [List.getElem?_set_ne (by omega), List.getElem?_set_ne (by omega)]⟩, Int.emod_nonneg _ (by omega), Int.emod_lt_of_pos _ hp⟩
          · rw [List.getElem?_set_ne (by omega)]; exact h01
          · rw [List.getElem?_set_self (by simp; exact ml), List.map_append]; rfl
        · wp_walk using hf
          refine ⟨_, rfl, ⟨m, ini, s, h1, hk, by simp; exact hkl, h01, m1, by omega⟩, ⟨by simp, fun i hi _ => by rw [List.getElem?_set_ne (by omega)]⟩, Int.emod_nonneg _ (by omega), Int.emod_lt_of_pos _ hp⟩
    obtain ⟨d, st', e, r, rfl, a, b, c, f⟩ := wR_get w
    exact ⟨r, st', e, a, b, fun h => absurd h h2, fun _ => ⟨c, f⟩⟩
theorem low_len {k : Nat} {st st' : Sto} (hk : k ≤ st.length) (h : ∀ i, i < k → st'[i]? = st[i]?) : k ≤ st'.length := by
  rcases Nat.lt_or_ge st'.length k with c | c
  · have z := h st'.length c
    rw [List.getElem?_eq_none (Nat.le_refl _), List.getElem?_eq_getElem (show st'.length < st.length by omega)] at z
    exact absurd z (by simp)
  · exact c
theorem ddraw_ok (k : Nat) : Drw F_ddraw k (Dk k) where
  ps := rfl
  run := ddraw_run
  len := fun ⟨m, deep, s, h1, hk, hkl, _⟩ => hkl
  low := fun {st st'} ⟨m, deep, s, h1, hk, hkl, h0, hmm, hl⟩ h => ⟨m, deep, s, h1, hk, low_len hkl h, (h 0 (by omega)).trans h0, (h m hk).trans hmm, hl⟩
/-- how a deck is made -/
def B_deck (c0 : Int) : SM :=
  sSeq (sAsg (mDict [(mC (.str "deep"), mLst true []), (mC (.str "state"), mOp (addD true) (mC (.int c0)) (mCall lenD [mSlice false (mVar 0) pmNone (pmSome (mC (.int 63)))]))]) (gmName 1))
  (sSeq (sFor (imSeq (mSlice false (mVar 0) pmNone (pmSome (mC (.int 63))))) (Tg.name 2).m (sSeq (sAsg (mCall absD [mVar 2]) (gmName 3))
  (sSeq (sIf (mTst (mOp (cmpD .GtE) (mVar 3) (mOp (arD .Pow) (mC (.int 10)) (mC (.int 18))))) (sDPutM (mVar 1) (mC (.str "deep")) (mOp (addD true) (mLst false [mVar 3]) (mDGet (mVar 1) (mC (.str "deep"))))) (sNx))
  (sSeq (sAsg (mOp (addD false) (mOp mulD (mOp (addD false) (mOp (addD false) (mOp (addD false) (mDGet (mVar 1) (mC (.str "state"))) (mOp mulD (mC (.int 2)) (mVar 3))) (mCall intD [mOp (cmpD .Lt) (mVar 2) (mC (.int 0))])) (mC (.int 1))) (mC (.int 1181783497276652981))) (mC (.int 521288629))) (gmName 4))
  (sDPutM (mVar 1) (mC (.str "state")) (mOp (arD .Mod) (mCall intD [mVar 4]) (mC (.int 2305843009213693951))))))))
  (sRet (mVar 1)))
theorem cut_ints (ns : List Int) : ∃ ms : List Int, cutL (ns.map D.int) none (some 63) = ms.map D.int ∧ ms.length ≤ 63 := by
  refine ⟨ns.take 63, ?_, by rw [List.length_take]; omega⟩
  rw [show (some (63 : Int)) = some ((63 : Nat) : Int) from rfl, cutL_to, List.map_take]
theorem deck_run {c0 : Int} {ns : List Int} : wR (runBody 5 (B_deck c0) [.lst (ns.map D.int)] []) (fun d st => d = .loc 0 ∧ ∃ k, Dk k st ∧ k = st.length) nX := by
  obtain ⟨ms, hms, hml⟩ := cut_ints ns
  have p18 : ∀ st, arD .Pow (.int 10) (.int 18) st = .ok (.int 1000000000000000000) st := fun st => by rfl
  rw [w_body]
  unfold B_deck
  wp_walk
  have md : ∀ e : Sl, e[0]? = some (some (.lst (ns.map D.int))) → mDict [(mC (.str "deep"), mLst true []), (mC (.str "state"), mOp (addD true) (mC (.int c0)) (mCall lenD [mSlice false (mVar 0) pmNone (pmSome (mC (.int 63)))]))] e [] = .ok (.loc 0) [deckD 1 (c0 + ms.length), .lst []] := fun e h => by
    unfold mDict
    have sl : ∀ st, mSlice false (mVar 0) pmNone (pmSome (mC (.int 63))) e st = .ok (.lst (ms.map D.int)) st := fun st => by
      unfold mSlice
      rw [mVar_ev h]
      simp only [bind_ok, pmNone, pmSome, mC_ev, slice_lst, hms]
    simp only [mPairs, mC_ev, bind_ok, mLst_nilT, keyOf, mOp_ev, mCall_ev, mL_cons, mL_nil, sl, lenD_lst, DX.add_int, List.length_map]
    rfl
  rw [md _ rfl, wR_ok]
  wp_walk
  refine w_For (i_seq ?_)
  wp_walk using hms
  refine ⟨_, rfl, ?_⟩
  refine walk_w (fun r e st => ∃ a b c, (∃ l : List Int, r = l.map D.int) ∧ e = [some (.lst (ns.map D.int)), some (.loc 0), a, b, c] ∧ ∃ (m : Nat) (deep : List Int) (s : Int), 1 ≤ m ∧ m < st.length ∧ st[0]? = some (deckD m s) ∧ st[m]? = some (.lst (deep.map D.int)) ∧ deep.length + r.length ≤ 63) ?hN _ _ _ ⟨_, _, _, ⟨ms, rfl⟩, rfl, 1, [], _, Nat.le_refl _, by simp, rfl, rfl, by simpa using hml⟩ ?step
  case hN =>
    rintro e st ⟨a, b, c, _, rfl, m, deep, s, h1, hk, h0, hmm, hl⟩
    wp_walk
    exact ⟨trivial, _, ⟨m, deep, s, h1, hk, Nat.le_refl _, h0, hmm, by omega⟩, rfl⟩
  case step =>
    rintro x r e st _ ⟨a, b, c, ⟨l, hl0⟩, rfl, m, deep, s, h1, hk, h0, hmm, hl⟩
    cases l with
    | nil => cases hl0
    | cons i l =>
    rw [List.map_cons] at hl0
    injection hl0 with e1 e2
    subst e1 e2
    wp_walk using abs_int, w_DGet, w_DPut, p18
    generalize hw : (if i < 0 then -i else i) = w
    have g0 : dgetD (.loc 0) (.str "deep") st = .ok (.loc m) st := dget_dct h0 deep_of
    have zl : 0 < st.length := by omega
    have m2 : ∀ st, mulD (.int 2) (.int w) st = .ok (.int (2 * w)) st := fun st => mul_int (.inl ⟨by decide, by decide⟩)
    have m3 : ∀ (x : Int) st, mulD (.int x) (.int 1181783497276652981) st = .ok (.int (x * 1181783497276652981)) st := fun x st => mul_int (.inr ⟨by decide, by decide⟩)
    by_cases hb : 1000000000000000000 ≤ w
    · have ad : addD true (.lst [.int w]) (.loc m) st = .ok (.loc st.length) (st ++ [.lst (.int w :: deep.map D.int)]) := by
        show (match items st (.lst [.int w]), items st (.loc m) with
          | some xs, some ys => if xs.length + ys.length ≤ sizeLine then newL true (xs ++ ys) st else .no
          | _, _ => .no) = _
        rw [items_loc hmm]
        show (if [D.int w].length + (deep.map D.int).length ≤ sizeLine then newL true ([D.int w] ++ deep.map D.int) st else .no) = _
        rw [if_pos (Nat.le_trans (show _ ≤ 64 by simp at hl ⊢; omega) (by decide))]
        rfl
      have z0 : (st ++ [O.lst (.int w :: deep.map D.int)])[0]? = some (deckD m s) := by rw [List.getElem?_append_left zl]; exact h0
      have z1 : ((st ++ [O.lst (.int w :: deep.map D.int)]).set 0 (deckD st.length s))[0]? = some (deckD st.length s) := List.getElem?_set_self (by simp)
      have z2 : ((st ++ [O.lst (.int w :: deep.map D.int)]).set 0 (deckD st.length s))[st.length]? = some (.lst (.int w :: deep.map D.int)) := by rw [List.getElem?_set_ne (by omega), app0]; rfl
      wp_walk using hb, g0, ad, dpGet_ev z0 (show _ ≤ 100 by simp), put_deep
      generalize hS : (st ++ [O.lst (.int w :: deep.map D.int)]).set 0 (.dct [(.inr "deep", .loc st.length), (.inr "state", .int s)]) = S at *
      have z1 : S[0]? = some (deckD st.length s) := by rw [← hS]; exact z1
      have z2 : S[st.length]? = some (.lst (.int w :: deep.map D.int)) := by rw [← hS]; exact z2
      have ls : st.length < S.length := by rw [← hS]; simp
      have sg : dgetD (.loc 0) (.str "state") S = .ok (.int s) S := dget_dct z1 state_of
      wp_walk using sg, m2, m3, mod_int (show (0 : Int) < 2305843009213693951 by decide), dpGet_ev z1 (show _ ≤ 100 by simp), put_state
      refine ⟨_, _, _, ⟨l, rfl⟩, rfl, st.length, w :: deep, _, by omega, by rw [List.length_set]; exact ls, List.getElem?_set_self (by omega), by rw [List.getElem?_set_ne (by omega)]; exact z2, by simp at hl ⊢; omega⟩
    · have sg : dgetD (.loc 0) (.str "state") st = .ok (.int s) st := dget_dct h0 state_of
      wp_walk using hb, sg, m2, m3, mod_int (show (0 : Int) < 2305843009213693951 by decide), dpGet_ev h0 (show _ ≤ 100 by simp), put_state
      refine ⟨_, _, _, ⟨l, rfl⟩, rfl, m, deep, _, h1, by rw [List.length_set]; exact hk, List.getElem?_set_self zl, by rw [List.getElem?_set_ne (by omega)]; exact hmm, by simp at hl ⊢; omega⟩
end DX

/-! DxLk: what a manner lacks. -/
set_option linter.all false
set_option maxRecDepth 100000
set_option Elab.async false
namespace DX
open PySem PySem.Spec PyProof.Rows L2
local macro_rules | `(tactic| wp_walk) => `(tactic| try simp only [w_C, w_Var, vGet_some, w_Lnil, w_Lcons, w_Op, w_Call, w_Tup, w_Lst, w_LstT, w_Fn, w_If, w_Tst, tGet_bl, w_Tru, uGet_some, w_tAnd, w_tOr, w_tNot, w_And, w_Or, w_Not, w_Slice, w_pN, w_pS, iGet_int, w_Neg, w_Back, w_EdF, w_EdT, w_Seq, w_sNx, w_Expr, w_Ret, w_sIf, w_Asg, g_name, gGet_some, w_Par, w_Par3, retP_nx, retP_rt, retP_ex, wS_nx, wS_bk, wS_ct, wS_rt, wR_ok, wR_bind, List.getElem?_cons_zero, List.getElem?_cons_succ, List.set_cons_zero, List.set_cons_succ, pick, List.filterMap_cons, List.filterMap_nil, List.cons_append, List.nil_append, List.append_nil, if_true, if_false, Bool.false_eq_true, Bool.not_true, Bool.not_false, List.length_cons, List.length_nil, List.replicate_succ, List.replicate_zero, Nat.reduceSub, List.map_cons, List.map_nil, fits_small, add_lst, add_tup, DX.add_int, DX.sub_int, eq_ii, ne_ii, newC_f, tru_bl, tru_int, tupleD_lst, tupleD_tup, listD_lst, listD_tup, lenD_lst, lenD_tup, back_tup, back_lst, slice_tup, slice_lst, cmp_lt, cmp_le, cmp_gt, cmp_ge, int_int, int_bl, cmp_isnon, cmp_isnotnon, Nat.reduceAdd, Nat.reduceLeDiff, decide_eq_true_eq, asg_name, mLst_nil, cutL_to, cutL_from, cst1, asg_two, tg_two, tg_three, gm_tg, wipeE, notT_eq, Bool.true_eq_false, le_lim])
local macro_rules | `(tactic| wp_walk using $ls,*) => `(tactic| try simp only [w_C, w_Var, vGet_some, w_Lnil, w_Lcons, w_Op, w_Call, w_Tup, w_Lst, w_LstT, w_Fn, w_If, w_Tst, tGet_bl, w_Tru, uGet_some, w_tAnd, w_tOr, w_tNot, w_And, w_Or, w_Not, w_Slice, w_pN, w_pS, iGet_int, w_Neg, w_Back, w_EdF, w_EdT, w_Seq, w_sNx, w_Expr, w_Ret, w_sIf, w_Asg, g_name, gGet_some, w_Par, w_Par3, retP_nx, retP_rt, retP_ex, wS_nx, wS_bk, wS_ct, wS_rt, wR_ok, wR_bind, List.getElem?_cons_zero, List.getElem?_cons_succ, List.set_cons_zero, List.set_cons_succ, pick, List.filterMap_cons, List.filterMap_nil, List.cons_append, List.nil_append, List.append_nil, if_true, if_false, Bool.false_eq_true, Bool.not_true, Bool.not_false, List.length_cons, List.length_nil, List.replicate_succ, List.replicate_zero, Nat.reduceSub, List.map_cons, List.map_nil, fits_small, add_lst, add_tup, DX.add_int, DX.sub_int, eq_ii, ne_ii, newC_f, tru_bl, tru_int, tupleD_lst, tupleD_tup, listD_lst, listD_tup, lenD_lst, lenD_tup, back_tup, back_lst, slice_tup, slice_lst, cmp_lt, cmp_le, cmp_gt, cmp_ge, int_int, int_bl, cmp_isnon, cmp_isnotnon, Nat.reduceAdd, Nat.reduceLeDiff, decide_eq_true_eq, asg_name, mLst_nil, cutL_to, cutL_from, cst1, asg_two, tg_two, tg_three, gm_tg, wipeE, notT_eq, Bool.true_eq_false, le_lim, $[$ls:term],*])

/-! ### heads, manners: items, comparisons -/
def isF : S3 → Bool
  | .f => true
  | _ => false
def isN : S3 → Bool
  | .n => true
  | _ => false
def hasA : Th → Bool
  | .a | .b => true
  | _ => false
def hasC : Th → Bool
  | .c | .b => true
  | _ => false
section
variable {st : Sto}
theorem ix_H0 (h : Hd) : ixD (eH h) (.int 0) st = .ok (eS h.b) st := rfl
theorem ix_H1 (h : Hd) : ixD (eH h) (.int 1) st = .ok (eS h.c) st := rfl
theorem ix_H2 (h : Hd) : ixD (eH h) (.int 2) st = .ok (eS h.a) st := rfl
theorem ix_M0 (m : Mn) : ixD (eM m) (.int 0) st = .ok (eS m.p) st := rfl
theorem ix_M1 (m : Mn) : ixD (eM m) (.int 1) st = .ok (eS m.c) st := rfl
theorem ix_M2 (m : Mn) : ixD (eM m) (.int 2) st = .ok (eS m.a) st := rfl
theorem ix_M3 (m : Mn) : ixD (eM m) (.int 3) st = .ok (eT m.t) st := rfl
theorem ix_M4 (m : Mn) : ixD (eM m) (.int 4) st = .ok (eE m.e) st := rfl
theorem ix_M5 (m : Mn) : ixD (eM m) (.int 5) st = .ok (.bl m.s) st := rfl
theorem ne_Sf (s : S3) : cmpD .NotEq (eS s) (.str "forced") st = .ok (.bl (!isF s)) st := by cases s <;> kernel_rfl
theorem eq_Sf (s : S3) : cmpD .Eq (eS s) (.str "forced") st = .ok (.bl (isF s)) st := by cases s <;> kernel_rfl
theorem ne_Sn (s : S3) : cmpD .NotEq (eS s) (.str "none") st = .ok (.bl (!isN s)) st := by cases s <;> kernel_rfl
theorem eq_Sn (s : S3) : cmpD .Eq (eS s) (.str "none") st = .ok (.bl (isN s)) st := by cases s <;> kernel_rfl
theorem eq_Ec (s : Bool) : cmpD .Eq (eE s) (.str "commit") st = .ok (.bl s) st := by cases s <;> kernel_rfl
theorem eq_Ea (s : Bool) : cmpD .Eq (eE s) (.str "abort") st = .ok (.bl (!s)) st := by cases s <;> kernel_rfl
theorem notin_a (t : Th) : cmpD .NotIn (.str "abort") (eT t) st = .ok (.bl (!hasA t)) st := by cases t <;> kernel_rfl
theorem notin_c (t : Th) : cmpD .NotIn (.str "commit") (eT t) st = .ok (.bl (!hasC t)) st := by cases t <;> kernel_rfl
theorem in_a (t : Th) : cmpD .In (.str "abort") (eT t) st = .ok (.bl (hasA t)) st := by cases t <;> kernel_rfl
theorem in_c (t : Th) : cmpD .In (.str "commit") (eT t) st = .ok (.bl (hasC t)) st := by cases t <;> kernel_rfl
theorem ne_SS (s t : S3) : cmpD .NotEq (eS s) (eS t) st = .ok (.bl (decide (s ≠ t))) st := by cases s <;> cases t <;> kernel_rfl
theorem ne_TT (s t : Th) : cmpD .NotEq (eT s) (eT t) st = .ok (.bl (decide (s ≠ t))) st := by cases s <;> cases t <;> kernel_rfl
theorem tg_six (i0 i1 i2 i3 i4 i5 : Nat) (m : Mn) (e : Sl) : (Tg.tup (.cons (.name i0) (.cons (.name i1) (.cons (.name i2) (.cons (.name i3) (.cons (.name i4) (.cons (.name i5) .nil))))))).m (eM m) e = some ((((((e.set i0 (some (eS m.p))).set i1 (some (eS m.c))).set i2 (some (eS m.a))).set i3 (some (eT m.t))).set i4 (some (eE m.e))).set i5 (some (.bl m.s))) := rfl
end
/-! ### words put behind, one after another -/
section
variable {e : Sl} {st : Sto} {P : Po} {L : List O} {xs : List D}
theorem get_at0 (o : O) : (st ++ o :: L)[st.length]? = some o := by rw [app0]; rfl
theorem if_app {T : TM} {i : Nat} {w : D} {b : Bool} (hT : T e (st ++ .lst xs :: L) = .ok b (st ++ .lst xs :: L)) (hi : e[i]? = some (some (.loc st.length))) (hl : xs.length ≤ 900) (k : P.nx e (st ++ .lst (xs ++ if b = true then [w] else []) :: L)) :
    wS (sIf T (sExpr (mMeth appendD (mVar i) [mC w])) (sNx) e (st ++ .lst xs :: L)) P := by
  have ll : xs.length + 1 ≤ lim := le_lim (by omega)
  have og : ∀ K, oGet (st ++ O.lst xs :: L)[st.length]? K = K xs := fun K => by rw [get_at0]; rfl
  rw [w_sIf, hT, wR_ok]
  cases b with
  | true =>
    wp_walk using w_Meth, hi, lstOf_loc (get_at0 (.lst xs)), lGet_some, og, append_lim ll, set0
    exact k
  | false =>
    wp_walk
    simpa using k
theorem if_ext {T : TM} {i : Nat} {F : FI} {perm : List Nat} {ms : List EM} {ds as ys : List D} {b : Bool} (hT : T e (st ++ .lst xs :: L) = .ok b (st ++ .lst xs :: L)) (hi : e[i]? = some (some (.loc st.length))) (hl : xs.length ≤ 900) (hy : ys.length ≤ 50)
    (hm : mL ms e (st ++ .lst xs :: L) = .ok ds (st ++ .lst xs :: L)) (hp : pick perm ds = as) (hlen : as.length = F.ps.length)
    (hF : F.run as (st ++ .lst xs :: L) = .ok (.loc (st ++ .lst xs :: L).length) ((st ++ .lst xs :: L) ++ [.lst ys]))
    (k : ∀ L, P.nx e (st ++ .lst (xs ++ if b = true then ys else []) :: L)) :
    wS (sIf T (sExpr (mMeth extendD (mVar i) [mFn F perm ms []])) (sNx) e (st ++ .lst xs :: L)) P := by
  have ll : xs.length + ys.length ≤ lim := le_lim (by omega)
  rw [w_sIf, hT, wR_ok]
  cases b with
  | true =>
    have call : mFn F perm ms [] e (st ++ .lst xs :: L) = .ok (.loc (st ++ .lst xs :: L).length) ((st ++ .lst xs :: L) ++ [.lst ys]) := by rw [ev_fn hm hp hlen]; exact hF
    have e1 : (st ++ O.lst xs :: L) ++ [O.lst ys] = st ++ O.lst xs :: (L ++ [O.lst ys]) := by simp
    have og : ∀ K, oGet ((st ++ O.lst xs :: L) ++ [O.lst ys])[st.length]? K = K xs := fun K => by rw [e1, get_at0]; rfl
    have g2 : ((st ++ O.lst xs :: L) ++ [O.lst ys])[(st ++ O.lst xs :: L).length]? = some (.lst ys) := by rw [app0]; rfl
    simp only [if_true, w_Expr, w_Meth, w_Var, hi, vGet_some, lstOf_loc (get_at0 (.lst xs)), lGet_some, w_Lcons, w_Lnil, call, wR_ok, og, extend_lim g2 ll]
    rw [e1, set0]
    exact k _
  | false =>
    wp_walk
    have z := k L
    simpa using z
end
def sw (s : String) : Str := Str.ofString s
/-- the words, as they are found -/
def abortL (h : Hd) (m : Mn) : List Str := (if (!isF h.b) = true then [("begun" : Str)] else []) ++ (if (!hasA m.t) = true then [("thanks abort" : Str)] else []) ++ (if (!isF m.a && !isN m.p) = true then [("aborted" : Str)] else [])
def commitL (m : Mn) : List Str := (if (!isF m.c) = true then [("committed" : Str)] else []) ++ (if (!hasC m.t) = true then [("thanks commit" : Str)] else [])
def lackL (h : Hd) (m : Mn) : List Str := (if (!isF h.c) = true then [("head committed" : Str)] else []) ++ (if (!isF m.p && !m.s) = true then [("prepared" : Str)] else []) ++ (if m.e = true then abortL h m else []) ++ (if (!m.e || (m.s && !isF m.p)) = true then commitL m else [])
def lackD (h : Hd) (m : Mn) : D := .tup (((lackL h m).map D.str).mergeSort leD)
def B_lack_abort : SM :=
  sSeq (sAsg (mLst true []) (gmName 2))
  (sSeq (sIf (mTst (mOp (cmpD .NotEq) (mOp ixD (mVar 0) (mC (.int 0))) (mC (.str "forced")))) (sExpr (mMeth appendD (mVar 2) [mC (.str "begun")])) (sNx))
  (sSeq (sIf (mTst (mOp (cmpD .NotIn) (mC (.str "abort")) (mOp ixD (mVar 1) (mC (.int 3))))) (sExpr (mMeth appendD (mVar 2) [mC (.str "thanks abort")])) (sNx))
  (sSeq (sIf (tmAnd (mTst (mOp (cmpD .NotEq) (mOp ixD (mVar 1) (mC (.int 2))) (mC (.str "forced")))) (mTst (mOp (cmpD .NotEq) (mOp ixD (mVar 1) (mC (.int 0))) (mC (.str "none"))))) (sExpr (mMeth appendD (mVar 2) [mC (.str "aborted")])) (sNx))
  (sRet (mVar 2)))))
def F_lack_abort : FI := ⟨["head", "manner"], runBody 3 B_lack_abort⟩
def B_lack_commit : SM :=
  sSeq (sAsg (mLst true []) (gmName 1))
  (sSeq (sIf (mTst (mOp (cmpD .NotEq) (mOp ixD (mVar 0) (mC (.int 1))) (mC (.str "forced")))) (sExpr (mMeth appendD (mVar 1) [mC (.str "committed")])) (sNx))
  (sSeq (sIf (mTst (mOp (cmpD .NotIn) (mC (.str "commit")) (mOp ixD (mVar 0) (mC (.int 3))))) (sExpr (mMeth appendD (mVar 1) [mC (.str "thanks commit")])) (sNx))
  (sRet (mVar 1))))
def F_lack_commit : FI := ⟨["manner"], runBody 2 B_lack_commit⟩
def B_lacks : SM :=
  sSeq (sAsg (mVar 1) (Tg.tup (.cons (.name 2) (.cons (.name 3) (.cons (.name 4) (.cons (.name 5) (.cons (.name 6) (.cons (.name 7) (.nil)))))))).m)
  (sSeq (sAsg (mLst true []) (gmName 8))
  (sSeq (sIf (mTst (mOp (cmpD .NotEq) (mOp ixD (mVar 0) (mC (.int 1))) (mC (.str "forced")))) (sExpr (mMeth appendD (mVar 8) [mC (.str "head committed")])) (sNx))
  (sSeq (sIf (tmAnd (mTst (mOp (cmpD .NotEq) (mVar 2) (mC (.str "forced")))) (tmNot (mTru (mVar 7)))) (sExpr (mMeth appendD (mVar 8) [mC (.str "prepared")])) (sNx))
  (sSeq (sIf (mTst (mOp (cmpD .Eq) (mVar 6) (mC (.str "commit")))) (sExpr (mMeth extendD (mVar 8) [mFn F_lack_abort [0, 1] [mVar 0, mVar 1] []])) (sNx))
  (sSeq (sIf (tmOr (mTst (mOp (cmpD .Eq) (mVar 6) (mC (.str "abort")))) (tmAnd (mTru (mVar 7)) (mTst (mOp (cmpD .NotEq) (mVar 2) (mC (.str "forced")))))) (sExpr (mMeth extendD (mVar 8) [mFn F_lack_commit [0] [mVar 1] []])) (sNx))
  (sRet (mCall tupleD [mCall sortD [mVar 8]])))))))
def F_lacks : FI := ⟨["head", "manner"], runBody 9 B_lacks⟩
section
variable {st : Sto} {X : XP} {Q : D → Sto → Prop}
theorem map_ite {c : Prop} [Decidable c] {a b : List Str} : (if c then a else b).map D.str = if c then a.map D.str else b.map D.str := by split <;> rfl
theorem lack_abort_w (h : Hd) (m : Mn) (k : Q (.loc st.length) (st ++ [.lst ((abortL h m).map D.str)])) : wR (F_lack_abort.run [eH h, eM m] st) Q X := by
  rw [show F_lack_abort.run = runBody 3 B_lack_abort from rfl, w_body]
  unfold B_lack_abort
  simp only [w_Seq, w_Asg, mLst_nilT, wR_ok, g_name, gGet_some, List.map_cons, List.map_nil, List.length_cons, List.length_nil, List.replicate_succ, List.replicate_zero, Nat.reduceSub, List.cons_append, List.nil_append, List.set_cons_zero, List.set_cons_succ]
  refine if_app (b := !isF h.b) ?_ rfl (by simp) ?_
  · simp only [mTst_ev, mOp_ev, mC_ev, bind_ok, mVar, List.getElem?_cons_zero, List.getElem?_cons_succ, ix_H0, ne_Sf]
  refine if_app (b := !hasA m.t) ?_ rfl (by split <;> simp) ?_
  · simp only [mTst_ev, mOp_ev, mC_ev, bind_ok, mVar, List.getElem?_cons_zero, List.getElem?_cons_succ, ix_M3, notin_a]
  refine if_app (b := !isF m.a && !isN m.p) ?_ rfl (by split <;> split <;> simp) ?_
  · simp only [tmAnd_ev, mTst_ev, mOp_ev, mC_ev, bind_ok, mVar, List.getElem?_cons_zero, List.getElem?_cons_succ, ix_M2, ne_Sf, ix_M0, ne_Sn]
    cases isF m.a <;> rfl
  simp only [w_Ret, w_Var, vGet_some, List.getElem?_cons_zero, List.getElem?_cons_succ, retP_rt, List.nil_append]
  unfold abortL at k
  simp only [List.map_append, map_ite, List.map_cons, List.map_nil] at k
  exact k
theorem lack_commit_w (m : Mn) (k : Q (.loc st.length) (st ++ [.lst ((commitL m).map D.str)])) : wR (F_lack_commit.run [eM m] st) Q X := by
  rw [show F_lack_commit.run = runBody 2 B_lack_commit from rfl, w_body]
  unfold B_lack_commit
  simp only [w_Seq, w_Asg, mLst_nilT, wR_ok, g_name, gGet_some, List.map_cons, List.map_nil, List.length_cons, List.length_nil, List.replicate_succ, List.replicate_zero, Nat.reduceSub, List.cons_append, List.nil_append, List.set_cons_zero, List.set_cons_succ]
  refine if_app (b := !isF m.c) ?_ rfl (by simp) ?_
  · simp only [mTst_ev, mOp_ev, mC_ev, bind_ok, mVar, List.getElem?_cons_zero, List.getElem?_cons_succ, ix_M1, ne_Sf]
  refine if_app (b := !hasC m.t) ?_ rfl (by split <;> simp) ?_
  · simp only [mTst_ev, mOp_ev, mC_ev, bind_ok, mVar, List.getElem?_cons_zero, List.getElem?_cons_succ, ix_M3, notin_c]
  simp only [w_Ret, w_Var, vGet_some, List.getElem?_cons_zero, List.getElem?_cons_succ, retP_rt, List.nil_append]
  unfold commitL at k
  simp only [List.map_append, map_ite, List.map_cons, List.map_nil] at k
  exact k
theorem lack_abort_run (h : Hd) (m : Mn) : F_lack_abort.run [eH h, eM m] st = .ok (.loc st.length) (st ++ [.lst ((abortL h m).map D.str)]) := by
  obtain ⟨d, st', e, rfl, rfl⟩ := wR_get (lack_abort_w (st := st) (Q := fun d st' => d = .loc st.length ∧ st' = st ++ [.lst ((abortL h m).map D.str)]) h m ⟨rfl, rfl⟩)
  exact e
theorem lack_commit_run (m : Mn) : F_lack_commit.run [eM m] st = .ok (.loc st.length) (st ++ [.lst ((commitL m).map D.str)]) := by
  obtain ⟨d, st', e, rfl, rfl⟩ := wR_get (lack_commit_w (st := st) (Q := fun d st' => d = .loc st.length ∧ st' = st ++ [.lst ((commitL m).map D.str)]) m ⟨rfl, rfl⟩)
  exact e
theorem abortL_len (h : Hd) (m : Mn) : (abortL h m).length ≤ 3 := by unfold abortL; split <;> split <;> split <;> simp
theorem commitL_len (m : Mn) : (commitL m).length ≤ 2 := by unfold commitL; split <;> split <;> simp
theorem lackL_len (h : Hd) (m : Mn) : (lackL h m).length ≤ 7 := by
  have a := abortL_len h m
  have b := commitL_len m
  unfold lackL
  simp only [List.length_append]
  have c1 : (if (!isF h.c) = true then [("head committed" : Str)] else []).length ≤ 1 := by split <;> simp
  have c2 : (if (!isF m.p && !m.s) = true then [("prepared" : Str)] else []).length ≤ 1 := by split <;> simp
  have c3 : (if m.e = true then abortL h m else []).length ≤ 3 := by
    split
    · exact a
    · simp
  have c4 : (if (!m.e || (m.s && !isF m.p)) = true then commitL m else []).length ≤ 2 := by
    split
    · exact b
    · simp
  omega
theorem lacks_w (h : Hd) (m : Mn) (k : ∀ L, Q (lackD h m) (st ++ L)) : wR (F_lacks.run [eH h, eM m] st) Q X := by
  rw [show F_lacks.run = runBody 9 B_lacks from rfl, w_body]
  unfold B_lacks
  simp only [w_Seq, w_Asg, mLst_nilT, wR_ok, g_name, gGet_some, List.map_cons, List.map_nil, List.length_cons, List.length_nil, List.replicate_succ, List.replicate_zero, Nat.reduceSub, List.cons_append, List.nil_append, List.set_cons_zero, List.set_cons_succ, w_Var, vGet_some, List.getElem?_cons_zero, List.getElem?_cons_succ, tg_six]
  refine if_app (b := !isF h.c) ?_ rfl (by simp) ?_
  · simp only [mTst_ev, mOp_ev, mC_ev, bind_ok, mVar, List.getElem?_cons_zero, List.getElem?_cons_succ, ix_H1, ne_Sf]
  refine if_app (b := !isF m.p && !m.s) ?_ rfl (by split <;> simp) ?_
  · simp only [tmAnd_ev, tmNot_ev, mTst_ev, mOp_ev, mC_ev, bind_ok, mVar, mTru, List.getElem?_cons_zero, List.getElem?_cons_succ, ne_Sf, tru_bl, of_some]
    cases isF m.p <;> rfl
  refine if_ext (b := m.e) (ys := (abortL h m).map D.str) (ds := [eH h, eM m]) (as := [eH h, eM m]) ?_ rfl (by split <;> split <;> simp) (by rw [List.length_map]; have := abortL_len h m; omega) ?_ rfl rfl (lack_abort_run h m) fun L1 => ?_
  · simp only [mTst_ev, mOp_ev, mC_ev, bind_ok, mVar, List.getElem?_cons_zero, List.getElem?_cons_succ, eq_Ec]
  · rfl
  have la := abortL_len h m
  refine if_ext (b := !m.e || (m.s && !isF m.p)) (ys := (commitL m).map D.str) (ds := [eM m]) (as := [eM m]) ?_ rfl (by simp only [List.length_append]; split <;> split <;> split <;> simp <;> omega) (by rw [List.length_map]; have := commitL_len m; omega) ?_ rfl rfl (lack_commit_run m) fun L2 => ?_
  · simp only [tmOr_ev, tmAnd_ev, tmNot_ev, mTst_ev, mOp_ev, mC_ev, bind_ok, mVar, mTru, List.getElem?_cons_zero, List.getElem?_cons_succ, ne_Sf, eq_Ea, tru_bl, of_some]
    cases m.e <;> cases m.s <;> rfl
  · rfl
  have e1 : ((([] ++ if (!isF h.c) = true then [D.str "head committed"] else []) ++ if (!isF m.p && !m.s) = true then [D.str "prepared"] else []) ++ if m.e = true then List.map D.str (abortL h m) else []) ++ (if (!m.e || (m.s && !isF m.p)) = true then List.map D.str (commitL m) else []) = (lackL h m).map D.str := by
    unfold lackL
    simp only [List.map_append, map_ite, List.map_cons, List.map_nil, List.nil_append]
  rw [e1]
  simp only [w_Ret, w_Call, w_Lcons, w_Lnil, w_Var, vGet_some, List.getElem?_cons_zero, List.getElem?_cons_succ, retP_rt, sort_strs (items_loc (get_at0 (.lst ((lackL h m).map D.str)))), wR_ok, tupleD_lst]
  exact k _
end
end DX

/-! DxLo: loops and comprehensions over lists of the store that stay. -/
set_option linter.all false
set_option maxRecDepth 100000
set_option Elab.async false
namespace DX
open PySem PySem.Spec PyProof.Rows L2
local macro_rules | `(tactic| wp_walk) => `(tactic| try simp only [w_C, w_Var, vGet_some, w_Lnil, w_Lcons, w_Op, w_Call, w_Tup, w_Lst, w_LstT, w_Fn, w_If, w_Tst, tGet_bl, w_Tru, uGet_some, w_tAnd, w_tOr, w_tNot, w_And, w_Or, w_Not, w_Slice, w_pN, w_pS, iGet_int, w_Neg, w_Back, w_EdF, w_EdT, w_Seq, w_sNx, w_Expr, w_Ret, w_sIf, w_Asg, g_name, gGet_some, w_Par, w_Par3, retP_nx, retP_rt, retP_ex, wS_nx, wS_bk, wS_ct, wS_rt, wR_ok, wR_bind, List.getElem?_cons_zero, List.getElem?_cons_succ, List.set_cons_zero, List.set_cons_succ, pick, List.filterMap_cons, List.filterMap_nil, List.cons_append, List.nil_append, List.append_nil, if_true, if_false, Bool.false_eq_true, Bool.not_true, Bool.not_false, List.length_cons, List.length_nil, List.replicate_succ, List.replicate_zero, Nat.reduceSub, List.map_cons, List.map_nil, fits_small, add_lst, add_tup, DX.add_int, DX.sub_int, eq_ii, ne_ii, newC_f, tru_bl, tru_int, tupleD_lst, tupleD_tup, listD_lst, listD_tup, lenD_lst, lenD_tup, back_tup, back_lst, slice_tup, slice_lst, cmp_lt, cmp_le, cmp_gt, cmp_ge, int_int, int_bl, cmp_isnon, cmp_isnotnon, Nat.reduceAdd, Nat.reduceLeDiff, decide_eq_true_eq, asg_name, mLst_nil, cutL_to, cutL_from, cst1, asg_two, tg_two, tg_three, gm_tg, wipeE, notT_eq, Bool.true_eq_false, le_lim])
local macro_rules | `(tactic| wp_walk using $ls,*) => `(tactic| try simp only [w_C, w_Var, vGet_some, w_Lnil, w_Lcons, w_Op, w_Call, w_Tup, w_Lst, w_LstT, w_Fn, w_If, w_Tst, tGet_bl, w_Tru, uGet_some, w_tAnd, w_tOr, w_tNot, w_And, w_Or, w_Not, w_Slice, w_pN, w_pS, iGet_int, w_Neg, w_Back, w_EdF, w_EdT, w_Seq, w_sNx, w_Expr, w_Ret, w_sIf, w_Asg, g_name, gGet_some, w_Par, w_Par3, retP_nx, retP_rt, retP_ex, wS_nx, wS_bk, wS_ct, wS_rt, wR_ok, wR_bind, List.getElem?_cons_zero, List.getElem?_cons_succ, List.set_cons_zero, List.set_cons_succ, pick, List.filterMap_cons, List.filterMap_nil, List.cons_append, List.nil_append, List.append_nil, if_true, if_false, Bool.false_eq_true, Bool.not_true, Bool.not_false, List.length_cons, List.length_nil, List.replicate_succ, List.replicate_zero, Nat.reduceSub, List.map_cons, List.map_nil, fits_small, add_lst, add_tup, DX.add_int, DX.sub_int, eq_ii, ne_ii, newC_f, tru_bl, tru_int, tupleD_lst, tupleD_tup, listD_lst, listD_tup, lenD_lst, lenD_tup, back_tup, back_lst, slice_tup, slice_lst, cmp_lt, cmp_le, cmp_gt, cmp_ge, int_int, int_bl, cmp_isnon, cmp_isnotnon, Nat.reduceAdd, Nat.reduceLeDiff, decide_eq_true_eq, asg_name, mLst_nil, cutL_to, cutL_from, cst1, asg_two, tg_two, tg_three, gm_tg, wipeE, notT_eq, Bool.true_eq_false, le_lim, $[$ls:term],*])
theorem forL_items {d : D} {xs : List D} {body : D → SM} {P : Po} (I : List D → Sl → Sto → Prop) (keep : ∀ r e st, I r e st → seqItems st d = some xs) (hN : ∀ e st, I [] e st → P.nx e st)
    (step : ∀ x r e st, (∃ p, p ++ x :: r = xs) → I (x :: r) e st → wS (body x e st) (loopP P (I r))) : ∀ (r : Nat) (e : Sl) (st : Sto), r ≤ xs.length → I (xs.drop (xs.length - r)) e st → wS (forL (.seq d) xs.length body r e st) P
  | 0, e, st, _, h => by
    rw [Nat.sub_zero, List.drop_length] at h
    have k := keep _ _ _ h
    unfold forL
    rw [if_pos (show (Itr.seq d).len st = some xs.length by show (seqItems st d).map List.length = _; rw [k]; rfl)]
    exact ⟨hN _ _ h⟩
  | r + 1, e, st, hr, h => by
    have hi : xs.length - (r + 1) < xs.length := by omega
    have e1 : xs.length - (r + 1) + 1 = xs.length - r := by omega
    have k := keep _ _ _ h
    rw [List.drop_eq_getElem_cons hi, e1] at h
    have s := step _ _ _ _ ⟨xs.take (xs.length - (r + 1)), by rw [← e1, ← List.drop_eq_getElem_cons hi, List.take_append_drop]⟩ h
    have more : ∀ e st, I (xs.drop (xs.length - r)) e st → wS (forL (.seq d) xs.length body r e st) P := fun e st h => forL_items I keep hN step r e st (by omega) h
    unfold forL
    rw [if_pos (show (Itr.seq d).len st = some xs.length by show (seqItems st d).map List.length = _; rw [k]; rfl)]
    rw [show (Itr.seq d).at st (xs.length - (r + 1)) = some xs[xs.length - (r + 1)] by show (seqItems st d).bind _ = _; rw [k]; exact List.getElem?_eq_getElem hi]
    dsimp only
    cases q : body xs[xs.length - (r + 1)] e st with
    | nx e' st' => rw [q] at s; exact more _ _ s.h
    | ct e' st' => rw [q] at s; exact more _ _ s.h
    | bk e' st' => rw [q] at s; exact ⟨s.h⟩
    | rt d st' => rw [q] at s; exact ⟨s.h⟩
    | exc c fs e' st' => rw [q] at s; exact ⟨s.h⟩
    | no => rw [q] at s; exact ⟨s.h⟩
/-- for x in d, d any list that stays as long as I holds -/
theorem w_ForS {m : EM} {g : GM} {body : SM} {e : Sl} {st : Sto} {P : Po} {xs : List D} {d : D} {st1 : Sto} (hm : m e st = .ok d st1) (hx : seqItems st1 d = some xs) (I : List D → Sl → Sto → Prop) (keep : ∀ r e st, I r e st → seqItems st d = some xs) (hN : ∀ e st, I [] e st → P.nx e st) (h0 : I xs e st1)
    (step : ∀ x r e st, (∃ p, p ++ x :: r = xs) → I (x :: r) e st → wS (asg g body x e st) (loopP P (I r))) : wS (sFor (imSeq m) g body e st) P := by
  have im : imSeq m e st = .ok (.seq d) st1 := by
    unfold imSeq
    rw [hm, bind_ok, hx]
  unfold sFor
  rw [im, s_ok]
  rw [show (Itr.seq d).len st1 = some xs.length by show (seqItems st1 d).map List.length = _; rw [hx]; rfl]
  exact forL_items I keep hN step xs.length e st1 (Nat.le_refl _) (by rw [Nat.sub_self, List.drop_zero]; exact h0)
theorem compL_items {d : D} {xs : List D} {g : GM} {c : TM} {f : EM} {e : Sl} {X : XP} {Q : List D → Sto → Prop} (I : List D → List D → Sto → Prop) (keep : ∀ r acc st, I r acc st → seqItems st d = some xs) (hN : ∀ ys st, I [] ys st → Q ys st)
    (step : ∀ x r acc st, (∃ p, p ++ x :: r = xs) → I (x :: r) acc st → gGet (g x e) (fun e' st => wR (c e' st) (fun k st1 => if k = true then wR (f e' st1) (fun y st2 => I r (acc ++ [y]) st2) nX else I r acc st1) nX) st) :
    ∀ (r : Nat) (acc : List D) (st : Sto), r ≤ xs.length → acc.length + r ≤ sizeLine → I (xs.drop (xs.length - r)) acc st → wR (compL (.seq d) xs.length g c f r acc e st) Q X
  | 0, acc, st, _, _, h => by
    rw [Nat.sub_zero, List.drop_length] at h
    have k := keep _ _ _ h
    unfold compL
    rw [if_pos (show (Itr.seq d).len st = some xs.length by show (seqItems st d).map List.length = _; rw [k]; rfl)]
    exact ⟨hN _ _ h⟩
  | r + 1, acc, st, hr, hz, h => by
    have hi : xs.length - (r + 1) < xs.length := by omega
    have e1 : xs.length - (r + 1) + 1 = xs.length - r := by omega
    have k := keep _ _ _ h
    rw [List.drop_eq_getElem_cons hi, e1] at h
    have s := step _ _ _ _ ⟨xs.take (xs.length - (r + 1)), by rw [← e1, ← List.drop_eq_getElem_cons hi, List.take_append_drop]⟩ h
    have more : ∀ acc st, acc.length + r ≤ sizeLine → I (xs.drop (xs.length - r)) acc st → wR (compL (.seq d) xs.length g c f r acc e st) Q X := fun acc st hz h => compL_items I keep hN step r acc st (by omega) hz h
    unfold compL
    rw [if_pos (show (Itr.seq d).len st = some xs.length by show (seqItems st d).map List.length = _; rw [k]; rfl)]
    rw [show (Itr.seq d).at st (xs.length - (r + 1)) = some xs[xs.length - (r + 1)] by show (seqItems st d).bind _ = _; rw [k]; exact List.getElem?_eq_getElem hi]
    dsimp only
    cases q : g xs[xs.length - (r + 1)] e with
    | none => rw [q] at s; exact s.elim
    | some e' =>
      rw [q] at s
      have s : wR (c e' st) _ nX := s
      dsimp only
      cases q2 : c e' st with
      | ok kk st1 =>
        rw [q2] at s
        cases kk with
        | true =>
          have s : wR (f e' st1) _ nX := s.h
          dsimp only
          cases q3 : f e' st1 with
          | ok y st2 =>
            rw [q3] at s
            dsimp only
            rw [if_pos (by omega)]
            exact more _ _ (by rw [List.length_append, List.length_singleton]; omega) s.h
          | exc _ _ _ => rw [q3] at s; exact s.h.elim
          | no => rw [q3] at s; exact s.h.elim
        | false => exact more _ _ (by omega) s.h
      | exc _ _ _ => rw [q2] at s; exact s.h.elim
      | no => rw [q2] at s; exact s.h.elim
theorem w_LcS {mt : Bool} {m : EM} {vs : List Nat} {g : GM} {c : TM} {f : EM} {e : Sl} {st st1 : Sto} {QD : D → Sto → Prop} {X : XP} {xs : List D} {d : D} (hm : m e st = .ok d st1) (hx : seqItems st1 d = some xs) (hl : xs.length ≤ sizeLine) (I : List D → List D → Sto → Prop) (keep : ∀ r acc st, I r acc st → seqItems st d = some xs)
    (hN : ∀ ys st, I [] ys st → wR (newC mt ys st) QD X) (h0 : I xs [] st1)
    (step : ∀ x r acc st, (∃ p, p ++ x :: r = xs) → I (x :: r) acc st → gGet (g x (wipeE e vs)) (fun e' st => wR (c e' st) (fun k st1 => if k = true then wR (f e' st1) (fun y st2 => I r (acc ++ [y]) st2) nX else I r acc st1) nX) st) : wR (mLc mt (imSeq m) vs g c f e st) QD X := by
  have im : imSeq m e st = .ok (.seq d) st1 := by
    unfold imSeq
    rw [hm, bind_ok, hx]
  unfold mLc
  rw [im, bind_ok]
  rw [show (Itr.seq d).len st1 = some xs.length by show (seqItems st1 d).map List.length = _; rw [hx]; rfl]
  dsimp only
  rw [wR_bind]
  exact compL_items I keep hN step xs.length [] st1 (Nat.le_refl _) (by simpa using hl) (by rw [Nat.sub_self, List.drop_zero]; exact h0)
end DX

/-! DxLw: the laws' own look at what a manner lacks, manners that they draw. -/
set_option linter.all false
set_option maxRecDepth 100000
set_option Elab.async false
namespace DX
open PySem PySem.Spec PyProof.Rows L2
local macro_rules | `(tactic| wp_walk) => `(tactic| try simp only [w_C, w_Var, vGet_some, w_Lnil, w_Lcons, w_Op, w_Call, w_Tup, w_Lst, w_LstT, w_Fn, w_If, w_Tst, tGet_bl, w_Tru, uGet_some, w_tAnd, w_tOr, w_tNot, w_And, w_Or, w_Not, w_Slice, w_pN, w_pS, iGet_int, w_Neg, w_Back, w_EdF, w_EdT, w_Seq, w_sNx, w_Expr, w_Ret, w_sIf, w_Asg, g_name, gGet_some, w_Par, w_Par3, retP_nx, retP_rt, retP_ex, wS_nx, wS_bk, wS_ct, wS_rt, wR_ok, wR_bind, List.getElem?_cons_zero, List.getElem?_cons_succ, List.set_cons_zero, List.set_cons_succ, pick, List.filterMap_cons, List.filterMap_nil, List.cons_append, List.nil_append, List.append_nil, if_true, if_false, Bool.false_eq_true, Bool.not_true, Bool.not_false, List.length_cons, List.length_nil, List.replicate_succ, List.replicate_zero, Nat.reduceSub, List.map_cons, List.map_nil, fits_small, add_lst, add_tup, DX.add_int, DX.sub_int, eq_ii, ne_ii, newC_f, tru_bl, tru_int, tupleD_lst, tupleD_tup, listD_lst, listD_tup, lenD_lst, lenD_tup, back_tup, back_lst, slice_tup, slice_lst, cmp_lt, cmp_le, cmp_gt, cmp_ge, int_int, int_bl, cmp_isnon, cmp_isnotnon, Nat.reduceAdd, Nat.reduceLeDiff, decide_eq_true_eq, asg_name, mLst_nil, cutL_to, cutL_from, cst1, asg_two, tg_two, tg_three, gm_tg, wipeE, notT_eq, Bool.true_eq_false, le_lim])
local macro_rules | `(tactic| wp_walk using $ls,*) => `(tactic| try simp only [w_C, w_Var, vGet_some, w_Lnil, w_Lcons, w_Op, w_Call, w_Tup, w_Lst, w_LstT, w_Fn, w_If, w_Tst, tGet_bl, w_Tru, uGet_some, w_tAnd, w_tOr, w_tNot, w_And, w_Or, w_Not, w_Slice, w_pN, w_pS, iGet_int, w_Neg, w_Back, w_EdF, w_EdT, w_Seq, w_sNx, w_Expr, w_Ret, w_sIf, w_Asg, g_name, gGet_some, w_Par, w_Par3, retP_nx, retP_rt, retP_ex, wS_nx, wS_bk, wS_ct, wS_rt, wR_ok, wR_bind, List.getElem?_cons_zero, List.getElem?_cons_succ, List.set_cons_zero, List.set_cons_succ, pick, List.filterMap_cons, List.filterMap_nil, List.cons_append, List.nil_append, List.append_nil, if_true, if_false, Bool.false_eq_true, Bool.not_true, Bool.not_false, List.length_cons, List.length_nil, List.replicate_succ, List.replicate_zero, Nat.reduceSub, List.map_cons, List.map_nil, fits_small, add_lst, add_tup, DX.add_int, DX.sub_int, eq_ii, ne_ii, newC_f, tru_bl, tru_int, tupleD_lst, tupleD_tup, listD_lst, listD_tup, lenD_lst, lenD_tup, back_tup, back_lst, slice_tup, slice_lst, cmp_lt, cmp_le, cmp_gt, cmp_ge, int_int, int_bl, cmp_isnon, cmp_isnotnon, Nat.reduceAdd, Nat.reduceLeDiff, decide_eq_true_eq, asg_name, mLst_nil, cutL_to, cutL_from, cst1, asg_two, tg_two, tg_three, gm_tg, wipeE, notT_eq, Bool.true_eq_false, le_lim, $[$ls:term],*])
def B_lawLacks : SM :=
  sSeq (sAsg (mVar 1) (Tg.tup (.cons (.name 2) (.cons (.name 3) (.cons (.name 4) (.cons (.name 5) (.cons (.name 6) (.cons (.name 7) (.nil)))))))).m)
  (sSeq (sAsg (mLst true []) (gmName 8))
  (sSeq (sIf (mTst (mOp (cmpD .NotEq) (mOp ixD (mVar 0) (mC (.int 1))) (mC (.str "forced")))) (sExpr (mMeth appendD (mVar 8) [mC (.str "head committed")])) (sNx))
  (sSeq (sIf (tmAnd (mTst (mOp (cmpD .NotEq) (mVar 2) (mC (.str "forced")))) (tmNot (mTru (mVar 7)))) (sExpr (mMeth appendD (mVar 8) [mC (.str "prepared")])) (sNx))
  (sSeq (sIf (tmAnd (mTst (mOp (cmpD .Eq) (mVar 6) (mC (.str "commit")))) (mTst (mOp (cmpD .NotEq) (mOp ixD (mVar 0) (mC (.int 0))) (mC (.str "forced"))))) (sExpr (mMeth appendD (mVar 8) [mC (.str "begun")])) (sNx))
  (sSeq (sIf (tmAnd (mTst (mOp (cmpD .Eq) (mVar 6) (mC (.str "commit")))) (mTst (mOp (cmpD .NotIn) (mC (.str "abort")) (mVar 5)))) (sExpr (mMeth appendD (mVar 8) [mC (.str "thanks abort")])) (sNx))
  (sSeq (sIf (tmAnd (mTst (mOp (cmpD .Eq) (mVar 6) (mC (.str "commit")))) (tmAnd (mTst (mOp (cmpD .NotEq) (mVar 4) (mC (.str "forced")))) (mTst (mOp (cmpD .NotEq) (mVar 2) (mC (.str "none")))))) (sExpr (mMeth appendD (mVar 8) [mC (.str "aborted")])) (sNx))
  (sSeq (sIf (tmOr (mTst (mOp (cmpD .Eq) (mVar 6) (mC (.str "abort")))) (tmAnd (mTru (mVar 7)) (mTst (mOp (cmpD .NotEq) (mVar 2) (mC (.str "forced")))))) (sSeq (sIf (mTst (mOp (cmpD .NotEq) (mVar 3) (mC (.str "forced")))) (sExpr (mMeth appendD (mVar 8) [mC (.str "committed")])) (sNx))
  (sIf (mTst (mOp (cmpD .NotIn) (mC (.str "commit")) (mVar 5))) (sExpr (mMeth appendD (mVar 8) [mC (.str "thanks commit")])) (sNx))) (sNx))
  (sRet (mCall tupleD [mCall sortD [mVar 8]])))))))))
def F_lawLacks : FI := ⟨["head", "manner"], runBody 9 B_lawLacks⟩
theorem cf_lawLacks {a0 a1 : D} {st : Sto} : callF F_lawLacks [a0, a1] st = F_lawLacks.run [a0, a1] st := rfl
theorem ub_lawLacks {a0 a1 : D} {st : Sto} {Q : D → Sto → Prop} {X : XP} : wR (F_lawLacks.run [a0, a1] st) Q X = wS (B_lawLacks [some a0, some a1, none, none, none, none, none, none, none] st) (retP Q X) := w_body 9 B_lawLacks [a0, a1]
def B_fitM : SM :=
  sSeq (sPar 2 3 (mLst false [mC (.str "none"), mC (.str "lazy"), mC (.str "forced")]) (mTup [mC (.str "abort"), mC (.str "commit")]))
  (sSeq (sPar 4 5 (mIf (mTst (mOp (cmpD .Eq) (mOp ixD (mVar 1) (mC (.int 0))) (mC (.str "forced")))) (mFn (F_pickG F_ddraw) [0, 1] [mVar 0, mVar 3] []) (mC (.str "abort"))) (mOp (cmpD .Eq) (mFn F_ddraw [0, 1] [mVar 0, mC (.int 2)] []) (mC (.int 0))))
  (sSeq (sAsg (mIf (mTru (mVar 5)) (mFn (F_pickG F_ddraw) [0, 1] [mVar 0, mVar 2] []) (mC (.str "forced"))) (gmName 6))
  (sSeq (sPar 7 8 (mFn (F_pickG F_ddraw) [0, 1] [mVar 0, mVar 2] []) (mFn (F_pickG F_ddraw) [0, 1] [mVar 0, mVar 2] []))
  (sSeq (sIf (mTst (mOp (cmpD .Eq) (mVar 4) (mC (.str "abort")))) (sRet (mTup [mVar 6, mC (.str "forced"), mVar 8, mFn (F_pickG F_ddraw) [0, 1] [mVar 0, mLst false [mTup [mC (.str "commit")], mVar 3]] [], mVar 4, mVar 5])) (sNx))
  (sSeq (sIf (mTst (mOp (cmpD .NotEq) (mVar 6) (mC (.str "none")))) (sAsg (mC (.str "forced")) (gmName 8)) (sNx))
  (sSeq (sIf (mTst (mOp (cmpD .NotEq) (mVar 6) (mC (.str "forced")))) (sRet (mTup [mVar 6, mC (.str "forced"), mVar 8, mVar 3, mVar 4, mVar 5])) (sNx))
  (sRet (mTup [mVar 6, mVar 7, mVar 8, mFn (F_pickG F_ddraw) [0, 1] [mVar 0, mLst false [mTup [mC (.str "abort")], mVar 3]] [], mVar 4, mVar 5]))))))))
def F_fitM : FI := ⟨["deck", "head"], runBody 9 B_fitM⟩
theorem cf_fitM {a0 a1 : D} {st : Sto} : callF F_fitM [a0, a1] st = F_fitM.run [a0, a1] st := rfl
theorem ub_fitM {a0 a1 : D} {st : Sto} {Q : D → Sto → Prop} {X : XP} : wR (F_fitM.run [a0, a1] st) Q X = wS (B_fitM [some a0, some a1, none, none, none, none, none, none, none] st) (retP Q X) := w_body 9 B_fitM [a0, a1]
def B_anyM : SM :=
  sSeq (sAsg (mLst false [mC (.str "none"), mC (.str "lazy"), mC (.str "forced")]) (gmName 1))
  (sSeq (sAsg (mLc true (imR1 (mC (.int 3))) [3] (Tg.name 3).m (fun _ st => .ok true st) (mFn (F_pickG F_ddraw) [0, 1] [mVar 0, mVar 1] [])) (gmName 2))
  (sSeq (sExpr (mMeth appendD (mVar 2) [mFn (F_pickG F_ddraw) [0, 1] [mVar 0, mLst false [mTup [], mTup [mC (.str "abort")], mTup [mC (.str "commit")], mTup [mC (.str "abort"), mC (.str "commit")]]] []]))
  (sRet (mCall tupleD [mOp (addD false) (mVar 2) (mLst false [mFn (F_pickG F_ddraw) [0, 1] [mVar 0, mLst false [mC (.str "abort"), mC (.str "commit")]] [], mOp (cmpD .Eq) (mFn F_ddraw [0, 1] [mVar 0, mC (.int 2)] []) (mC (.int 1))])]))))
def F_anyM : FI := ⟨["deck"], runBody 4 B_anyM⟩
theorem cf_anyM {a0 : D} {st : Sto} : callF F_anyM [a0] st = F_anyM.run [a0] st := rfl
theorem ub_anyM {a0 : D} {st : Sto} {Q : D → Sto → Prop} {X : XP} : wR (F_anyM.run [a0] st) Q X = wS (B_anyM [some a0, none, none, none] st) (retP Q X) := w_body 4 B_anyM [a0]
section
variable {st : Sto} {Q : D → Sto → Prop} {X : XP} {k0 : Nat}
theorem cf_ddraw {a b : D} {st : Sto} : callF F_ddraw [a, b] st = F_ddraw.run [a, b] st := rfl
theorem cfp {a b : D} {st : Sto} : callF (F_pickG F_ddraw) [a, b] st = runBody 2 (B_pickG F_ddraw) [a, b] st := rfl
theorem lawLacks_w (h : Hd) (m : Mn) (k : ∀ L, Q (lackD h m) (st ++ L)) : wR (F_lawLacks.run [eH h, eM m] st) Q X := by
  rw [ub_lawLacks]
  unfold B_lawLacks
  simp only [w_Seq, w_Asg, mLst_nilT, wR_ok, g_name, gGet_some, List.set_cons_zero, List.set_cons_succ, w_Var, vGet_some, List.getElem?_cons_zero, List.getElem?_cons_succ, tg_six]
  refine if_app (b := !isF h.c) ?_ rfl (by simp) ?_
  · simp only [mTst_ev, mOp_ev, mC_ev, bind_ok, mVar, List.getElem?_cons_zero, List.getElem?_cons_succ, ix_H1, ne_Sf]
  refine if_app (b := !isF m.p && !m.s) ?_ rfl (by split <;> simp) ?_
  · simp only [tmAnd_ev, tmNot_ev, mTst_ev, mOp_ev, mC_ev, bind_ok, mVar, mTru, List.getElem?_cons_zero, List.getElem?_cons_succ, ne_Sf, tru_bl, of_some]
    cases isF m.p <;> rfl
  refine if_app (b := m.e && !isF h.b) ?_ rfl (by split <;> split <;> simp) ?_
  · simp only [tmAnd_ev, mTst_ev, mOp_ev, mC_ev, bind_ok, mVar, List.getElem?_cons_zero, List.getElem?_cons_succ, ix_H0, ne_Sf, eq_Ec]
    cases m.e <;> rfl
  refine if_app (b := m.e && !hasA m.t) ?_ rfl (by split <;> split <;> split <;> simp) ?_
  · simp only [tmAnd_ev, mTst_ev, mOp_ev, mC_ev, bind_ok, mVar, List.getElem?_cons_zero, List.getElem?_cons_succ, notin_a, eq_Ec]
    cases m.e <;> rfl
  refine if_app (b := m.e && (!isF m.a && !isN m.p)) ?_ rfl (by split <;> split <;> split <;> split <;> simp) ?_
  · simp only [tmAnd_ev, mTst_ev, mOp_ev, mC_ev, bind_ok, mVar, List.getElem?_cons_zero, List.getElem?_cons_succ, ne_Sf, ne_Sn, eq_Ec]
    cases m.e <;> cases isF m.a <;> rfl
  simp only [w_sIf]
  have hc : ∀ L xs, tmOr (mTst (mOp (cmpD .Eq) (mVar 6) (mC (.str "abort")))) (tmAnd (mTru (mVar 7)) (mTst (mOp (cmpD .NotEq) (mVar 2) (mC (.str "forced"))))) [some (eH h), some (eM m), some (eS m.p), some (eS m.c), some (eS m.a), some (eT m.t), some (eE m.e), some (D.bl m.s), some (D.loc (List.length st))] (st ++ O.lst xs :: L) = .ok (!m.e || (m.s && !isF m.p)) (st ++ O.lst xs :: L) := fun L xs => by
    simp only [tmOr_ev, tmAnd_ev, tmNot_ev, mTst_ev, mOp_ev, mC_ev, bind_ok, mVar, mTru, List.getElem?_cons_zero, List.getElem?_cons_succ, ne_Sf, eq_Ea, tru_bl, of_some]
    cases m.e <;> cases m.s <;> rfl
  rw [hc, wR_ok]
  have fin : ∀ (ws : List Str) (L : List O), ws = lackL h m → wS (sRet (mCall tupleD [mCall sortD [mVar 8]]) [some (eH h), some (eM m), some (eS m.p), some (eS m.c), some (eS m.a), some (eT m.t), some (eE m.e), some (D.bl m.s), some (D.loc (List.length st))] (st ++ O.lst (ws.map D.str) :: L)) (retP Q X) := by
    rintro ws L rfl
    simp only [w_Ret, w_Call, w_Lcons, w_Lnil, w_Var, vGet_some, List.getElem?_cons_zero, List.getElem?_cons_succ, retP_rt, sort_strs (items_loc (get_at0 (.lst ((lackL h m).map D.str)))), wR_ok, tupleD_lst]
    exact k _
  have ab : (if (m.e && !isF h.b) = true then [("begun" : Str)] else []) ++ (if (m.e && !hasA m.t) = true then [("thanks abort" : Str)] else []) ++ (if (m.e && (!isF m.a && !isN m.p)) = true then [("aborted" : Str)] else []) = if m.e = true then abortL h m else [] := by
    cases m.e
    · rfl
    · unfold abortL; simp only [Bool.true_and, if_true]
  cases hb : (!m.e || (m.s && !isF m.p)) with
  | true =>
    rw [if_pos rfl, w_Seq]
    refine if_app (b := !isF m.c) ?_ rfl (by split <;> split <;> split <;> split <;> split <;> simp) ?_
    · simp only [mTst_ev, mOp_ev, mC_ev, bind_ok, mVar, List.getElem?_cons_zero, List.getElem?_cons_succ, ne_Sf]
    refine if_app (b := !hasC m.t) ?_ rfl (by split <;> split <;> split <;> split <;> split <;> split <;> simp) ?_
    · simp only [mTst_ev, mOp_ev, mC_ev, bind_ok, mVar, List.getElem?_cons_zero, List.getElem?_cons_succ, notin_c]
    have e1 : lackL h m = (if (!isF h.c) = true then [("head committed" : Str)] else []) ++ (if (!isF m.p && !m.s) = true then [("prepared" : Str)] else []) ++ ((if (m.e && !isF h.b) = true then [("begun" : Str)] else []) ++ (if (m.e && !hasA m.t) = true then [("thanks abort" : Str)] else []) ++ (if (m.e && (!isF m.a && !isN m.p)) = true then [("aborted" : Str)] else [])) ++ ((if (!isF m.c) = true then [("committed" : Str)] else []) ++ (if (!hasC m.t) = true then [("thanks commit" : Str)] else [])) := by
      unfold lackL
      rw [ab, hb, if_pos rfl]
      rfl
    have z := fin _ [] e1.symm
    simp only [List.map_append, map_ite, List.map_cons, List.map_nil, List.append_assoc, List.nil_append] at z ⊢
    exact z
  | false =>
    rw [if_neg (by decide), w_sNx]
    have e1 : lackL h m = (if (!isF h.c) = true then [("head committed" : Str)] else []) ++ (if (!isF m.p && !m.s) = true then [("prepared" : Str)] else []) ++ ((if (m.e && !isF h.b) = true then [("begun" : Str)] else []) ++ (if (m.e && !hasA m.t) = true then [("thanks abort" : Str)] else []) ++ (if (m.e && (!isF m.a && !isN m.p)) = true then [("aborted" : Str)] else [])) := by
      unfold lackL
      rw [ab, hb, if_neg (c := false = true) Bool.false_ne_true, List.append_nil]
    have z := fin _ [] e1.symm
    simp only [List.map_append, map_ite, List.map_cons, List.map_nil, List.append_assoc, List.nil_append] at z ⊢
    exact z
theorem fitM_w {h : Hd} (hB : Dk k0 st) (k : ∀ (m : Mn) st', DO k0 (Dk k0) st st' → Q (eM m) st') : wR (F_fitM.run [.loc 0, eH h] st) Q X := by
  rw [ub_fitM]
  unfold B_fitM
  refine w_cut (fun e st' => e = [some (.loc 0), some (eH h), some (.lst [.str "none", .str "lazy", .str "forced"]), some (.tup [.str "abort", .str "commit"]), none, none, none, none, none] ∧ DO k0 (Dk k0) st st') ?_ ?_
  · wp_walk
    exact ⟨trivial, .refl hB⟩
  rintro _ st1 ⟨rfl, b1⟩
  refine w_cut (fun e st' => ∃ p s, e = [some (.loc 0), some (eH h), some (.lst [.str "none", .str "lazy", .str "forced"]), some (.tup [.str "abort", .str "commit"]), some (eE p), some (.bl s), none, none, none] ∧ DO k0 (Dk k0) st st') ?_ ?_
  · wp_walk using cf_ddraw, cfp, ix_H0, eq_Sf
    have go : ∀ (p : Bool) st2, DO k0 (Dk k0) st st2 → wR (F_ddraw.run [D.loc 0, D.int 2] st2) (fun x_1 st1 => wR (cmpD CmpOp.Eq x_1 (D.int 0) st1) (fun y st2 => ∃ p' s, [some (D.loc 0), some (eH h), some (D.lst [D.str "none", D.str "lazy", D.str "forced"]), some (D.tup [D.str "abort", D.str "commit"]), some (eE p), some y, none, none, none] = [some (D.loc 0), some (eH h), some (D.lst [D.str "none", D.str "lazy", D.str "forced"]), some (D.tup [D.str "abort", D.str "commit"]), some (eE p'), some (D.bl s), none, none, none] ∧ DO k0 (Dk k0) st st2) fun c fs st => X c fs st) fun c fs st => X c fs st := fun p st2 b2 => by
      refine (ddraw_ok k0).w b2.deck (by decide) fun r st3 b3 _ _ => ?_
      wp_walk
      exact ⟨p, _, rfl, b2.trans b3⟩
    split
    · refine (ddraw_ok k0).pick_m [false, true] eE rfl rfl b1.deck (by simp) (by simp) fun p st2 _ b2 => ?_
      exact go p st2 (b1.trans b2)
    · exact go false st1 b1
  rintro _ st2 ⟨p, s, rfl, b2⟩
  refine w_cut (fun e st' => ∃ w, e = [some (.loc 0), some (eH h), some (.lst [.str "none", .str "lazy", .str "forced"]), some (.tup [.str "abort", .str "commit"]), some (eE p), some (.bl s), some (eS w), none, none] ∧ DO k0 (Dk k0) st st') ?_ ?_
  · wp_walk using cfp
    split
    · refine (ddraw_ok k0).pick_m [S3.n, .l, .f] eS rfl rfl b2.deck (by simp) (by simp) fun w st3 _ b3 => ?_
      exact ⟨w, rfl, b2.trans b3⟩
    · exact ⟨.f, rfl, b2⟩
  rintro _ st3 ⟨w, rfl, b3⟩
  wp_walk using cfp
  refine (ddraw_ok k0).pick_m [S3.n, .l, .f] eS rfl rfl b3.deck (by simp) (by simp) fun c st4 _ b4 => ?_
  refine (ddraw_ok k0).pick_m [S3.n, .l, .f] eS rfl rfl b4.deck (by simp) (by simp) fun a st5 _ b5 => ?_
  wp_walk using cfp, eq_Ea, ne_Sn, ne_Sf
  have b := (b3.trans b4).trans b5
  cases p with
  | false =>
    wp_walk
    refine (ddraw_ok k0).pick_m [Th.c, .b] eT rfl rfl b5.deck (by simp) (by simp) fun t st6 _ b6 => ?_
    exact k ⟨w, .f, a, t, false, s⟩ st6 (b.trans b6)
  | true =>
    wp_walk
    split <;> split
    · exact k ⟨w, .f, .f, .b, true, s⟩ st5 b
    · refine (ddraw_ok k0).pick_m [Th.a, .b] eT rfl rfl b5.deck (by simp) (by simp) fun t st6 _ b6 => ?_
      exact k ⟨w, c, .f, t, true, s⟩ st6 (b.trans b6)
    · exact k ⟨w, .f, a, .b, true, s⟩ st5 b
    · refine (ddraw_ok k0).pick_m [Th.a, .b] eT rfl rfl b5.deck (by simp) (by simp) fun t st6 _ b6 => ?_
      exact k ⟨w, c, a, t, true, s⟩ st6 (b.trans b6)
theorem anyM_w (hB : Dk k0 st) (k : ∀ (m : Mn) st', DO k0 (Dk k0) st st' → Q (eM m) st') : wR (F_anyM.run [.loc 0] st) Q X := by
  rw [ub_anyM]
  unfold B_anyM
  refine w_cut (fun e st' => e = [some (.loc 0), some (.lst [.str "none", .str "lazy", .str "forced"]), none, none] ∧ DO k0 (Dk k0) st st') ?_ ?_
  · wp_walk
    exact ⟨trivial, .refl hB⟩
  rintro _ st0 ⟨rfl, b0⟩
  refine w_cut (fun e st' => ∃ a b c n x y st1, e = [some (.loc 0), x, some (.loc n), y] ∧ st' = st1 ++ [.lst [eS a, eS b, eS c]] ∧ n = st1.length ∧ DO k0 (Dk k0) st st1) ?_ ?_
  · wp_walk
    refine w_Lc (i_range ?_)
    wp_walk using cfp
    refine ⟨3, rfl, by decide, ?_⟩
    refine mapW_w (fun r acc st' => ∃ l : List S3, acc = l.map eS ∧ acc.length + r.length = 3 ∧ DO k0 (Dk k0) st st') ?hN (upto 3) [] st0 (by show 3 ≤ sizeLine; decide) ⟨[], rfl, rfl, b0⟩ ?step
    case hN =>
      rintro ys st' ⟨l, rfl, hl, b⟩
      match l, hl with
      | [x, y, z], _ =>
        wp_walk using newC_t
        exact ⟨x, y, z, _, _, _, st', rfl, rfl, rfl, b⟩
    case step =>
      rintro x r acc st' _ ⟨l, rfl, hl, b⟩
      wp_walk using cfp
      refine (ddraw_ok k0).pick_m [S3.n, .l, .f] eS rfl rfl b.deck (by simp) (by simp) fun w st2 _ b2 => ?_
      exact ⟨l ++ [w], by simp, by simp at hl ⊢; omega, b.trans b2⟩
  rintro _ _ ⟨a, b, c, _, x, y, st1, rfl, rfl, rfl, b1⟩
  have g1 : (st1 ++ [O.lst [eS a, eS b, eS c]])[st1.length]? = some (.lst [eS a, eS b, eS c]) := get_at0 _
  have b2 : Dk k0 (st1 ++ [O.lst [eS a, eS b, eS c]]) := (ddraw_ok k0).push b1.deck _
  wp_walk using w_Meth, lstOf_loc g1, lGet_some, cfp
  refine (ddraw_ok k0).pick_m [Th.o, .a, .c, .b] eT rfl rfl b2 (by simp) (by simp) fun t st2 _ b3 => ?_
  have hk : k0 ≤ st1.length := (ddraw_ok k0).len b1.deck
  have g2 := b3.frm.get hk g1
  have o2 : ∀ K, oGet st2[st1.length]? K = K [eS a, eS b, eS c] := fun K => by rw [g2]; rfl
  have l2 : st1.length < st2.length := (List.getElem?_eq_some_iff.mp g2).1
  have g3 : (st2.set st1.length (.lst [eS a, eS b, eS c, eT t]))[st1.length]? = some (.lst [eS a, eS b, eS c, eT t]) := List.getElem?_set_self l2
  have b4 : Dk k0 (st2.set st1.length (.lst [eS a, eS b, eS c, eT t])) := (ddraw_ok k0).set b3.deck hk _
  wp_walk using o2, append_lim (show [eS a, eS b, eS c].length + 1 ≤ lim from le_lim (by simp)), cfp
  refine (ddraw_ok k0).pick_m [false, true] eE rfl rfl b4 (by simp) (by simp) fun p st3 _ b5 => ?_
  simp only [cf_ddraw]
  refine (ddraw_ok k0).w b5.deck (by decide) fun r st4 b6 _ _ => ?_
  have g4 := (b5.trans b6).frm.get hk g3
  wp_walk
  rw [add_loc g4 (le_lim (by simp)), wR_ok]
  wp_walk
  have fr : Frm k0 st st4 := by
    refine ⟨?_, fun i h1 h2 => ?_⟩
    · have l1 := b1.frm.len
      have l3 := b3.frm.len
      have l5 := (b5.trans b6).frm.len
      rw [List.length_append] at l3
      rw [List.length_set] at l5
      omega
    · have l1 := b1.frm.len
      have e1 := b1.frm.keep i h1 h2
      have e2 := b3.frm.keep i h1 (by rw [List.length_append]; omega)
      have l3 := b3.frm.len
      rw [List.length_append] at l3
      have e3 := (b5.trans b6).frm.keep i h1 (by rw [List.length_set]; omega)
      rw [List.getElem?_set_ne (by omega)] at e3
      rw [List.getElem?_append_left (by omega)] at e2
      rw [e3, e2, e1]
  exact k ⟨a, b, c, t, p, _⟩ st4 ⟨b6.deck, fr⟩
end
theorem lack_words (h : Hd) (m : Mn) : ∀ s ∈ lackL h m, Sh 20 1 (D.str s) := by
  have all : ∀ s ∈ ([("head committed" : Str), "prepared", "begun", "thanks abort", "aborted", "committed", "thanks commit"] : List Str), Sh 20 1 (D.str s) := fun s hs => sh_allB (xs := [.str "head committed", .str "prepared", .str "begun", .str "thanks abort", .str "aborted", .str "committed", .str "thanks commit"]) (by decide +kernel) (.str s) (by
    have z := List.mem_map_of_mem (f := D.str) hs
    simpa using z)
  intro s hs
  apply all
  unfold lackL abortL commitL at hs
  simp only [List.mem_append, List.mem_ite_nil_right, List.mem_singleton] at hs
  simp only [List.mem_cons]
  rcases hs with ((hs | hs) | hs) | hs
  · exact .inl hs.2
  · exact .inr (.inl hs.2)
  · rcases hs.2 with (hs | hs) | hs
    · simp [hs.2]
    · simp [hs.2]
    · simp [hs.2]
  · rcases hs.2 with hs | hs
    · simp [hs.2]
    · simp [hs.2]
theorem lack_items (h : Hd) (m : Mn) : ∀ x ∈ ((lackL h m).map D.str).mergeSort leD, Sh 20 1 x := fun x hx => by
  obtain ⟨s, hs, rfl⟩ := List.mem_map.mp ((List.mergeSort_perm _ _).mem_iff.mp hx)
  exact lack_words h m s hs
theorem sh_lackD (h : Hd) (m : Mn) : Sh 300 2 (lackD h m) := (Sh.tup (k := 7) (lack_items h m) (by rw [List.length_mergeSort, List.length_map]; exact lackL_len h m)).mono (by decide) (by decide)
theorem sh_lay {n d : Nat} {x : D} (h : Sh n d x) (hd : d ≤ 60) (hc : ∀ p, pd x = some p → p.canLay0 = true) : ∃ p, pd x = some p ∧ lay p = true := by
  obtain ⟨p, e, _, _, c, _⟩ := h
  exact ⟨p, e, by unfold lay; rw [hc p e, Bool.true_and, decide_eq_true_eq]; omega⟩
def noLack (h : Hd) (m : Mn) : Bool := (lackL h m).isEmpty
theorem can_strs {ss : List Str} (h : ∀ s ∈ ss, PyData.strOk s = true) : PyData.canLayAll0 (ss.map PyData.str) = true := by
  induction ss with
  | nil => rfl
  | cons s ss ih =>
    rw [List.map_cons]
    unfold PyData.canLayAll0
    rw [ih fun t ht => h t (List.mem_cons_of_mem s ht), Bool.and_true]
    unfold PyData.canLay0
    exact h s List.mem_cons_self
theorem depth_strs (ss : List Str) : PyData.depthAll (ss.map PyData.str) ≤ 1 := by
  induction ss with
  | nil => decide
  | cons s ss ih =>
    rw [List.map_cons]
    unfold PyData.depthAll
    have : PyData.depth (.str s) ≤ 1 := by unfold PyData.depth; omega
    omega
theorem str_ok_of {n d : Nat} {s : Str} (h : Sh n d (D.str s)) : PyData.strOk s = true := by
  obtain ⟨p, e, a, _⟩ := h
  cases e
  unfold canE at a
  exact a
theorem eq_lack (h : Hd) (m : Mn) (st : Sto) : cmpD .Eq (lackD h m) (.tup []) st = .ok (.bl (noLack h m)) st := by
  have hs : ∃ ss : List Str, ((lackL h m).map D.str).mergeSort leD = ss.map D.str ∧ ss.Perm (lackL h m) := by
    refine ⟨(lackL h m).mergeSort (fun a b => leD (.str a) (.str b)), ?_, List.mergeSort_perm _ _⟩
    exact (List.map_mergeSort (f := D.str) (r := fun a b => leD (.str a) (.str b)) (s := leD) (l := lackL h m) (fun _ _ _ _ => rfl)).symm
  obtain ⟨ss, e, pm⟩ := hs
  have ok : ∀ s ∈ ss, PyData.strOk s = true := fun s hx => str_ok_of (lack_words h m s (pm.mem_iff.mp hx))
  have l1 : lay (.tuple (ss.map PyData.str)) = true := by
    unfold lay
    rw [Bool.and_eq_true, decide_eq_true_eq]
    refine ⟨by unfold PyData.canLay0; exact can_strs ok, ?_⟩
    unfold PyData.depth
    have := depth_strs ss
    omega
  have e1 : eqB (lackD h m) (.tup []) st = some (noLack h m) := by
    unfold eqB lackD
    rw [e, show view st (.tup (ss.map D.str)) = some (.tuple (ss.map PyData.str)) by rw [view_data (p := .tuple (ss.map PyData.str)) (by unfold pd; rw [pds_strs])], show view st (.tup []) = some (.tuple []) from rfl]
    simp only [l1, show lay (.tuple []) = true from by decide +kernel, Bool.and_self, if_true]
    unfold noLack
    have : (lackL h m).isEmpty = ss.isEmpty := by
      have := pm.length_eq
      cases ss <;> cases hh : lackL h m <;> simp_all
    rw [this]
    cases ss with
    | nil => rfl
    | cons s ss => rfl
  show R.of ((eqB (lackD h m) (.tup []) st).map D.bl) st = _
  rw [e1]; rfl
def B_fits : SM := sRet (mOp (cmpD .Eq) (mFn F_lacks [0, 1] [mVar 0, mVar 1] []) (mTup []))
def F_fits : FI := ⟨["head", "manner"], runBody 2 B_fits⟩
theorem cf_lacks {a b : D} {st : Sto} : callF F_lacks [a, b] st = F_lacks.run [a, b] st := rfl
theorem cf_fits {a b : D} {st : Sto} : callF F_fits [a, b] st = F_fits.run [a, b] st := rfl
theorem fits_w {st : Sto} {Q : D → Sto → Prop} {X : XP} (h : Hd) (m : Mn) (k : ∀ L, Q (.bl (noLack h m)) (st ++ L)) : wR (F_fits.run [eH h, eM m] st) Q X := by
  rw [show F_fits.run = runBody 2 B_fits from rfl, w_body]
  unfold B_fits
  wp_walk using cf_lacks
  refine lacks_w h m fun L => ?_
  rw [eq_lack, wR_ok]
  exact k L
theorem app_app (st : Sto) (L M : List O) : (st ++ L) ++ M = st ++ (L ++ M) := List.append_assoc _ _ _
end DX

set_option linter.all false
set_option maxRecDepth 100000
set_option Elab.async false
set_option maxHeartbeats 0
namespace K30
open PySem PySem.Spec PyProof.Rows L2 DX
/-! ### the text -/
def topS (i : Nat) : Stmt := PySem.Challenge.pw_doubtbooks_k30_whole_alike_and_one_more.main.body.getD i (.Pass ⟨0, 0, 0, 0⟩)
def CT : List (Str × D) := []
abbrev FUEL : Nat := 100000
def XI : ExI := ⟨[], [], [], []⟩
def T_0 : List Ent := []
/-! ### _law_deck -/
theorem sc_w_deck : FnScope ["script", "deck", "cell", "whole", "state"] ["script"] (defScope (topS 8)) := ⟨rfl, rfl, rfl, by decide +kernel, rfl, by decide +kernel, by decide +kernel⟩
def body_w_deck : SM :=
  sSeq (sAsg (mDict [(mC (.str "deep"), mLst true []), (mC (.str "state"), mOp (addD true) (mC (.int 1572130)) (mCall lenD [mSlice false (mVar 0) pmNone (pmSome (mC (.int 63)))]))]) (gmName 1))
  (sSeq (sFor (imSeq (mSlice false (mVar 0) pmNone (pmSome (mC (.int 63))))) (Tg.name 2).m (sSeq (sAsg (mCall absD [mVar 2]) (gmName 3))
  (sSeq (sIf (mTst (mOp (cmpD .GtE) (mVar 3) (mOp (arD .Pow) (mC (.int 10)) (mC (.int 18))))) (sDPutM (mVar 1) (mC (.str "deep")) (mOp (addD true) (mLst false [mVar 3]) (mDGet (mVar 1) (mC (.str "deep"))))) (sNx))
  (sSeq (sAsg (mOp (addD false) (mOp mulD (mOp (addD false) (mOp (addD false) (mOp (addD false) (mDGet (mVar 1) (mC (.str "state"))) (mOp mulD (mC (.int 2)) (mVar 3))) (mCall intD [mOp (cmpD .Lt) (mVar 2) (mC (.int 0))])) (mC (.int 1))) (mC (.int 1181783497276652981))) (mC (.int 521288629))) (gmName 4))
  (sDPutM (mVar 1) (mC (.str "state")) (mOp (arD .Mod) (mCall intD [mVar 4]) (mC (.int 2305843009213693951))))))))
  (sRet (mVar 1)))
def F_w_deck : FI := ⟨["script"], runBody 5 body_w_deck⟩
theorem cf_w_deck {a0 : D} {st : Sto} : callF F_w_deck [a0] st = F_w_deck.run [a0] st := callF_ok rfl
theorem ub_w_deck {a0 : D} {st : Sto} {Q : D → Sto → Prop} {X : XP} : wR (F_w_deck.run [a0] st) Q X = wS (body_w_deck [some a0, none, none, none, none] st) (retP Q X) := w_body 5 body_w_deck [a0]
def T_1 : List Ent := ⟨"_law_deck", F_w_deck, [(1, [])]⟩ :: T_0
theorem cp_w_deck : cSs (cSt 12 FUEL 12 (ctxOf ["script", "deck", "cell", "whole", "state"] (defScope (topS 8)) (fnsOf (subT T_0 [])) (patsOf (subT T_0 [])) (conOf CT) ["deck"] XI)) (defBody (topS 8)) = some body_w_deck := by kernel_rfl
/-! ### _law_draw -/
theorem sc_w_draw : FnScope ["deck", "many", "whole", "one", "two"] ["deck", "many"] (defScope (topS 9)) := ⟨rfl, rfl, rfl, by decide +kernel, rfl, by decide +kernel, by decide +kernel⟩
def body_w_draw : SM :=
  sSeq (sIf (mTst (mOp (cmpD .Lt) (mVar 1) (mC (.int 2)))) (sRet (mC (.int 0))) (sNx))
  (sSeq (sIf (mTst (mOp (cmpD .NotEq) (mDGet (mVar 0) (mC (.str "deep"))) (mLst false []))) (sSeq (sAsg (mMeth popD (mDGet (mVar 0) (mC (.str "deep"))) []) (gmName 2))
  (sSeq (sIf (mTst (mOp (cmpD .GtE) (mVar 2) (mVar 1))) (sExpr (mMeth appendD (mDGet (mVar 0) (mC (.str "deep"))) [mOp (arD .FloorDiv) (mVar 2) (mVar 1)])) (sNx))
  (sRet (mOp (arD .Mod) (mCall intD [mVar 2]) (mVar 1))))) (sNx))
  (sSeq (sAsg (mOp (arD .Mod) (mCall intD [mOp (addD false) (mOp mulD (mDGet (mVar 0) (mC (.str "state"))) (mC (.int 1181783497276652981))) (mC (.int 88172645463325))]) (mC (.int 2305843009213693951))) (gmName 3))
  (sSeq (sDPutM (mVar 0) (mC (.str "state")) (mVar 3))
  (sSeq (sAsg (mOp (arD .Mod) (mCall intD [mOp (addD false) (mOp (addD false) (mOp mulD (mVar 3) (mVar 3)) (mOp mulD (mC (.int 374761393)) (mVar 3))) (mC (.int 11))]) (mC (.int 2305843009213693921))) (gmName 4))
  (sRet (mOp (arD .Mod) (mCall intD [mOp (arD .FloorDiv) (mVar 4) (mC (.int 1048576))]) (mVar 1)))))))
def F_w_draw : FI := ⟨["deck", "many"], runBody 5 body_w_draw⟩
theorem cf_w_draw {a0 a1 : D} {st : Sto} : callF F_w_draw [a0, a1] st = F_w_draw.run [a0, a1] st := callF_ok rfl
theorem ub_w_draw {a0 a1 : D} {st : Sto} {Q : D → Sto → Prop} {X : XP} : wR (F_w_draw.run [a0, a1] st) Q X = wS (body_w_draw [some a0, some a1, none, none, none] st) (retP Q X) := w_body 5 body_w_draw [a0, a1]
def T_2 : List Ent := ⟨"_law_draw", F_w_draw, [(2, [])]⟩ :: T_1
theorem cp_w_draw : cSs (cSt 10 FUEL 10 (ctxOf ["deck", "many", "whole", "one", "two"] (defScope (topS 9)) (fnsOf (subT T_1 [])) (patsOf (subT T_1 [])) (conOf CT) ["deck"] XI)) (defBody (topS 9)) = some body_w_draw := by kernel_rfl
/-! ### _law_pick -/
theorem sc_w_pick : FnScope ["deck", "items"] ["deck", "items"] (defScope (topS 10)) := ⟨rfl, rfl, rfl, by decide +kernel, rfl, by decide +kernel, by decide +kernel⟩
def body_w_pick : SM :=
  sRet (mOp ixD (mVar 1) (mFn F_w_draw [0, 1] [mVar 0, mCall lenD [mVar 1]] []))
def F_w_pick : FI := ⟨["deck", "items"], runBody 2 body_w_pick⟩
theorem cf_w_pick {a0 a1 : D} {st : Sto} : callF F_w_pick [a0, a1] st = F_w_pick.run [a0, a1] st := callF_ok rfl
theorem ub_w_pick {a0 a1 : D} {st : Sto} {Q : D → Sto → Prop} {X : XP} : wR (F_w_pick.run [a0, a1] st) Q X = wS (body_w_pick [some a0, some a1] st) (retP Q X) := w_body 2 body_w_pick [a0, a1]
def T_3 : List Ent := ⟨"_law_pick", F_w_pick, [(2, [])]⟩ :: T_2
theorem cp_w_pick : cSs (cSt 8 FUEL 8 (ctxOf ["deck", "items"] (defScope (topS 10)) (fnsOf (subT T_2 [0])) (patsOf (subT T_2 [0])) (conOf CT) ["deck"] XI)) (defBody (topS 10)) = some body_w_pick := by kernel_rfl
/-! ### _law_head -/
theorem sc_w_head : FnScope ["deck", "strengths", "committed"] ["deck"] (defScope (topS 12)) := ⟨rfl, rfl, rfl, by decide +kernel, rfl, by decide +kernel, by decide +kernel⟩
def body_w_head : SM :=
  sSeq (sAsg (mLst false [mC (.str "none"), mC (.str "lazy"), mC (.str "forced")]) (gmName 1))
  (sSeq (sAsg (mIf (mTst (mOp (cmpD .Gt) (mFn F_w_draw [0, 1] [mVar 0, mC (.int 6)] []) (mC (.int 0)))) (mC (.str "forced")) (mFn F_w_pick [0, 1] [mVar 0, mVar 1] [])) (gmName 2))
  (sRet (mTup [mFn F_w_pick [0, 1] [mVar 0, mOp (addD false) (mVar 1) (mLst false [mC (.str "forced")])] [], mVar 2, mFn F_w_pick [0, 1] [mVar 0, mVar 1] []])))
def F_w_head : FI := ⟨["deck"], runBody 3 body_w_head⟩
theorem cf_w_head {a0 : D} {st : Sto} : callF F_w_head [a0] st = F_w_head.run [a0] st := callF_ok rfl
theorem ub_w_head {a0 : D} {st : Sto} {Q : D → Sto → Prop} {X : XP} : wR (F_w_head.run [a0] st) Q X = wS (body_w_head [some a0, none, none] st) (retP Q X) := w_body 3 body_w_head [a0]
def T_4 : List Ent := ⟨"_law_head", F_w_head, [(1, [])]⟩ :: T_3
theorem cp_w_head : cSs (cSt 8 FUEL 8 (ctxOf ["deck", "strengths", "committed"] (defScope (topS 12)) (fnsOf (subT T_3 [1, 0])) (patsOf (subT T_3 [1, 0])) (conOf CT) ["deck"] XI)) (defBody (topS 12)) = some body_w_head := by kernel_rfl
/-! ### _law_turned -/
theorem sc_w_turned : FnScope ["deck", "protocol", "head", "manners", "i", "spot", "strengths", "own"] ["deck", "protocol"] (defScope (topS 14)) := ⟨rfl, rfl, rfl, by decide +kernel, rfl, by decide +kernel, by decide +kernel⟩
def body_w_turned : SM :=
  sSeq (sAsg (mVar 1) (Tg.tup (.cons (.name 2) (.cons (.name 3) (.nil)))).m)
  (sSeq (sPar 4 5 (mFn F_w_draw [0, 1] [mVar 0, mCall lenD [mVar 3]] []) (mFn F_w_draw [0, 1] [mVar 0, mC (.int 9)] []))
  (sSeq (sPar 6 7 (mLst false [mC (.str "none"), mC (.str "lazy"), mC (.str "forced")]) (mCall (listD true) [mOp ixD (mVar 3) (mVar 4)]))
  (sSeq (sIf (mTst (mOp (cmpD .Lt) (mVar 5) (mC (.int 3)))) (sRet (mTup [mOp (addD false) (mOp (addD false) (mSlice false (mVar 2) pmNone (pmSome (mVar 5))) (mTup [mFn F_w_pick [0, 1] [mVar 0, mVar 6] []])) (mSlice false (mVar 2) (pmSome (mOp (addD false) (mVar 5) (mC (.int 1)))) pmNone), mVar 3])) (sNx))
  (sSeq (sIf (mTst (mOp (cmpD .Lt) (mVar 5) (mC (.int 6)))) (sLPutM (mVar 7) (mOp (arD .Sub) (mVar 5) (mC (.int 3))) (mFn F_w_pick [0, 1] [mVar 0, mVar 6] [])) (sIf (mTst (mOp (cmpD .Eq) (mVar 5) (mC (.int 6)))) (sLPutM (mVar 7) (mC (.int 3)) (mFn F_w_pick [0, 1] [mVar 0, mLst false [mTup [], mTup [mC (.str "abort")], mTup [mC (.str "commit")], mTup [mC (.str "abort"), mC (.str "commit")]]] [])) (sIf (mTst (mOp (cmpD .Eq) (mVar 5) (mC (.int 7)))) (sLPutM (mVar 7) (mC (.int 4)) (mIf (mTst (mOp (cmpD .Eq) (mOp ixD (mVar 7) (mC (.int 4))) (mC (.str "commit")))) (mC (.str "abort")) (mC (.str "commit")))) (sLPutM (mVar 7) (mC (.int 5)) (mNot (mOp ixD (mVar 7) (mC (.int 5))))))))
  (sRet (mTup [mVar 2, mOp (addD false) (mOp (addD false) (mSlice false (mVar 3) pmNone (pmSome (mVar 4))) (mTup [mCall tupleD [mVar 7]])) (mSlice false (mVar 3) (pmSome (mOp (addD false) (mVar 4) (mC (.int 1)))) pmNone)]))))))
def F_w_turned : FI := ⟨["deck", "protocol"], runBody 8 body_w_turned⟩
theorem cf_w_turned {a0 a1 : D} {st : Sto} : callF F_w_turned [a0, a1] st = F_w_turned.run [a0, a1] st := callF_ok rfl
theorem ub_w_turned {a0 a1 : D} {st : Sto} {Q : D → Sto → Prop} {X : XP} : wR (F_w_turned.run [a0, a1] st) Q X = wS (body_w_turned [some a0, some a1, none, none, none, none, none, none] st) (retP Q X) := w_body 8 body_w_turned [a0, a1]
def T_5 : List Ent := ⟨"_law_turned", F_w_turned, [(2, [])]⟩ :: T_4
theorem cp_w_turned : cSs (cSt 11 FUEL 11 (ctxOf ["deck", "protocol", "head", "manners", "i", "spot", "strengths", "own"] (defScope (topS 14)) (fnsOf (subT T_4 [2, 1])) (patsOf (subT T_4 [2, 1])) (conOf CT) ["deck", "own"] XI)) (defBody (topS 14)) = some body_w_turned := by kernel_rfl
/-! ### _law_any_manner -/
theorem sc_w_any_manner : FnScope ["deck", "strengths", "found", "spot"] ["deck"] (defScope (topS 11)) := ⟨rfl, rfl, rfl, by decide +kernel, rfl, by decide +kernel, by decide +kernel⟩
def body_w_any_manner : SM :=
  sSeq (sAsg (mLst false [mC (.str "none"), mC (.str "lazy"), mC (.str "forced")]) (gmName 1))
  (sSeq (sAsg (mLc true (imR1 (mC (.int 3))) [3] (Tg.name 3).m (fun _ st => .ok true st) (mFn F_w_pick [0, 1] [mVar 0, mVar 1] [])) (gmName 2))
  (sSeq (sExpr (mMeth appendD (mVar 2) [mFn F_w_pick [0, 1] [mVar 0, mLst false [mTup [], mTup [mC (.str "abort")], mTup [mC (.str "commit")], mTup [mC (.str "abort"), mC (.str "commit")]]] []]))
  (sRet (mCall tupleD [mOp (addD false) (mVar 2) (mLst false [mFn F_w_pick [0, 1] [mVar 0, mLst false [mC (.str "abort"), mC (.str "commit")]] [], mOp (cmpD .Eq) (mFn F_w_draw [0, 1] [mVar 0, mC (.int 2)] []) (mC (.int 1))])]))))
def F_w_any_manner : FI := ⟨["deck"], runBody 4 body_w_any_manner⟩
theorem cf_w_any_manner {a0 : D} {st : Sto} : callF F_w_any_manner [a0] st = F_w_any_manner.run [a0] st := callF_ok rfl
theorem ub_w_any_manner {a0 : D} {st : Sto} {Q : D → Sto → Prop} {X : XP} : wR (F_w_any_manner.run [a0] st) Q X = wS (body_w_any_manner [some a0, none, none, none] st) (retP Q X) := w_body 4 body_w_any_manner [a0]
def T_6 : List Ent := ⟨"_law_any_manner", F_w_any_manner, [(1, [])]⟩ :: T_5
theorem cp_w_any_manner : cSs (cSt 10 FUEL 10 (ctxOf ["deck", "strengths", "found", "spot"] (defScope (topS 11)) (fnsOf (subT T_5 [3, 2])) (patsOf (subT T_5 [3, 2])) (conOf CT) ["deck", "found"] XI)) (defBody (topS 11)) = some body_w_any_manner := by kernel_rfl
/-! ### _law_fit_manner -/
theorem sc_w_fit_manner : FnScope ["deck", "head", "strengths", "both", "presumed", "sent", "prepared", "committed", "aborted"] ["deck", "head"] (defScope (topS 13)) := ⟨rfl, rfl, rfl, by decide +kernel, rfl, by decide +kernel, by decide +kernel⟩
def body_w_fit_manner : SM :=
  sSeq (sPar 2 3 (mLst false [mC (.str "none"), mC (.str "lazy"), mC (.str "forced")]) (mTup [mC (.str "abort"), mC (.str "commit")]))
  (sSeq (sPar 4 5 (mIf (mTst (mOp (cmpD .Eq) (mOp ixD (mVar 1) (mC (.int 0))) (mC (.str "forced")))) (mFn F_w_pick [0, 1] [mVar 0, mVar 3] []) (mC (.str "abort"))) (mOp (cmpD .Eq) (mFn F_w_draw [0, 1] [mVar 0, mC (.int 2)] []) (mC (.int 0))))
  (sSeq (sAsg (mIf (mTru (mVar 5)) (mFn F_w_pick [0, 1] [mVar 0, mVar 2] []) (mC (.str "forced"))) (gmName 6))
  (sSeq (sPar 7 8 (mFn F_w_pick [0, 1] [mVar 0, mVar 2] []) (mFn F_w_pick [0, 1] [mVar 0, mVar 2] []))
  (sSeq (sIf (mTst (mOp (cmpD .Eq) (mVar 4) (mC (.str "abort")))) (sRet (mTup [mVar 6, mC (.str "forced"), mVar 8, mFn F_w_pick [0, 1] [mVar 0, mLst false [mTup [mC (.str "commit")], mVar 3]] [], mVar 4, mVar 5])) (sNx))
  (sSeq (sIf (mTst (mOp (cmpD .NotEq) (mVar 6) (mC (.str "none")))) (sAsg (mC (.str "forced")) (gmName 8)) (sNx))
  (sSeq (sIf (mTst (mOp (cmpD .NotEq) (mVar 6) (mC (.str "forced")))) (sRet (mTup [mVar 6, mC (.str "forced"), mVar 8, mVar 3, mVar 4, mVar 5])) (sNx))
  (sRet (mTup [mVar 6, mVar 7, mVar 8, mFn F_w_pick [0, 1] [mVar 0, mLst false [mTup [mC (.str "abort")], mVar 3]] [], mVar 4, mVar 5]))))))))
def F_w_fit_manner : FI := ⟨["deck", "head"], runBody 9 body_w_fit_manner⟩
theorem cf_w_fit_manner {a0 a1 : D} {st : Sto} : callF F_w_fit_manner [a0, a1] st = F_w_fit_manner.run [a0, a1] st := callF_ok rfl
theorem ub_w_fit_manner {a0 a1 : D} {st : Sto} {Q : D → Sto → Prop} {X : XP} : wR (F_w_fit_manner.run [a0, a1] st) Q X = wS (body_w_fit_manner [some a0, some a1, none, none, none, none, none, none, none] st) (retP Q X) := w_body 9 body_w_fit_manner [a0, a1]
def T_7 : List Ent := ⟨"_law_fit_manner", F_w_fit_manner, [(2, [])]⟩ :: T_6
theorem cp_w_fit_manner : cSs (cSt 9 FUEL 9 (ctxOf ["deck", "head", "strengths", "both", "presumed", "sent", "prepared", "committed", "aborted"] (defScope (topS 13)) (fnsOf (subT T_6 [4, 3])) (patsOf (subT T_6 [4, 3])) (conOf CT) ["deck"] XI)) (defBody (topS 13)) = some body_w_fit_manner := by kernel_rfl
/-! ### _law_protocol -/
theorem sc_w_protocol : FnScope ["deck", "many", "head", "fit", "found", "i"] ["deck", "many"] (defScope (topS 15)) := ⟨rfl, rfl, rfl, by decide +kernel, rfl, by decide +kernel, by decide +kernel⟩
def body_w_protocol : SM :=
  sSeq (sAsg (mFn F_w_head [0] [mVar 0] []) (gmName 2))
  (sSeq (sAsg (mLc false (imR1 (mVar 1)) [5] (Tg.name 5).m (fun _ st => .ok true st) (mIf (mTst (mOp (cmpD .Eq) (mFn F_w_draw [0, 1] [mVar 0, mC (.int 9)] []) (mC (.int 0)))) (mFn F_w_any_manner [0] [mVar 0] []) (mFn F_w_fit_manner [0, 1] [mVar 0, mVar 2] []))) (gmName 3))
  (sSeq (sAsg (mTup [mVar 2, mCall tupleD [mVar 3]]) (gmName 4))
  (sRet (mIf (mTst (mOp (cmpD .Eq) (mFn F_w_draw [0, 1] [mVar 0, mC (.int 2)] []) (mC (.int 0)))) (mVar 4) (mFn F_w_turned [0, 1] [mVar 0, mVar 4] [])))))
def F_w_protocol : FI := ⟨["deck", "many"], runBody 6 body_w_protocol⟩
theorem cf_w_protocol {a0 a1 : D} {st : Sto} : callF F_w_protocol [a0, a1] st = F_w_protocol.run [a0, a1] st := callF_ok rfl
theorem ub_w_protocol {a0 a1 : D} {st : Sto} {Q : D → Sto → Prop} {X : XP} : wR (F_w_protocol.run [a0, a1] st) Q X = wS (body_w_protocol [some a0, some a1, none, none, none, none] st) (retP Q X) := w_body 6 body_w_protocol [a0, a1]
def T_8 : List Ent := ⟨"_law_protocol", F_w_protocol, [(2, [])]⟩ :: T_7
theorem cp_w_protocol : cSs (cSt 9 FUEL 9 (ctxOf ["deck", "many", "head", "fit", "found", "i"] (defScope (topS 15)) (fnsOf (subT T_7 [5, 3, 2, 1, 0])) (patsOf (subT T_7 [5, 3, 2, 1, 0])) (conOf CT) ["deck"] XI)) (defBody (topS 15)) = some body_w_protocol := by kernel_rfl
/-! ### lacking_for_abort -/
theorem sc_lacking_for_abort : FnScope ["head", "manner", "words"] ["head", "manner"] (defScope (topS 2)) := ⟨rfl, rfl, rfl, by decide +kernel, rfl, by decide +kernel, by decide +kernel⟩
def body_lacking_for_abort : SM :=
  sSeq (sAsg (mLst true []) (gmName 2))
  (sSeq (sIf (mTst (mOp (cmpD .NotEq) (mOp ixD (mVar 0) (mC (.int 0))) (mC (.str "forced")))) (sExpr (mMeth appendD (mVar 2) [mC (.str "begun")])) (sNx))
  (sSeq (sIf (mTst (mOp (cmpD .NotIn) (mC (.str "abort")) (mOp ixD (mVar 1) (mC (.int 3))))) (sExpr (mMeth appendD (mVar 2) [mC (.str "thanks abort")])) (sNx))
  (sSeq (sIf (tmAnd (mTst (mOp (cmpD .NotEq) (mOp ixD (mVar 1) (mC (.int 2))) (mC (.str "forced")))) (mTst (mOp (cmpD .NotEq) (mOp ixD (mVar 1) (mC (.int 0))) (mC (.str "none"))))) (sExpr (mMeth appendD (mVar 2) [mC (.str "aborted")])) (sNx))
  (sRet (mVar 2)))))
def F_lacking_for_abort : FI := ⟨["head", "manner"], runBody 3 body_lacking_for_abort⟩
theorem cf_lacking_for_abort {a0 a1 : D} {st : Sto} : callF F_lacking_for_abort [a0, a1] st = F_lacking_for_abort.run [a0, a1] st := callF_ok rfl
theorem ub_lacking_for_abort {a0 a1 : D} {st : Sto} {Q : D → Sto → Prop} {X : XP} : wR (F_lacking_for_abort.run [a0, a1] st) Q X = wS (body_lacking_for_abort [some a0, some a1, none] st) (retP Q X) := w_body 3 body_lacking_for_abort [a0, a1]
def T_9 : List Ent := ⟨"lacking_for_abort", F_lacking_for_abort, [(2, [])]⟩ :: T_8
theorem cp_lacking_for_abort : cSs (cSt 8 FUEL 8 (ctxOf ["head", "manner", "words"] (defScope (topS 2)) (fnsOf (subT T_8 [])) (patsOf (subT T_8 [])) (conOf CT) ["words"] XI)) (defBody (topS 2)) = some body_lacking_for_abort := by kernel_rfl
/-! ### lacking_for_commit -/
theorem sc_lacking_for_commit : FnScope ["manner", "words"] ["manner"] (defScope (topS 1)) := ⟨rfl, rfl, rfl, by decide +kernel, rfl, by decide +kernel, by decide +kernel⟩
def body_lacking_for_commit : SM :=
  sSeq (sAsg (mLst true []) (gmName 1))
  (sSeq (sIf (mTst (mOp (cmpD .NotEq) (mOp ixD (mVar 0) (mC (.int 1))) (mC (.str "forced")))) (sExpr (mMeth appendD (mVar 1) [mC (.str "committed")])) (sNx))
  (sSeq (sIf (mTst (mOp (cmpD .NotIn) (mC (.str "commit")) (mOp ixD (mVar 0) (mC (.int 3))))) (sExpr (mMeth appendD (mVar 1) [mC (.str "thanks commit")])) (sNx))
  (sRet (mVar 1))))
def F_lacking_for_commit : FI := ⟨["manner"], runBody 2 body_lacking_for_commit⟩
theorem cf_lacking_for_commit {a0 : D} {st : Sto} : callF F_lacking_for_commit [a0] st = F_lacking_for_commit.run [a0] st := callF_ok rfl
theorem ub_lacking_for_commit {a0 : D} {st : Sto} {Q : D → Sto → Prop} {X : XP} : wR (F_lacking_for_commit.run [a0] st) Q X = wS (body_lacking_for_commit [some a0, none] st) (retP Q X) := w_body 2 body_lacking_for_commit [a0]
def T_10 : List Ent := ⟨"lacking_for_commit", F_lacking_for_commit, [(1, [])]⟩ :: T_9
theorem cp_lacking_for_commit : cSs (cSt 8 FUEL 8 (ctxOf ["manner", "words"] (defScope (topS 1)) (fnsOf (subT T_9 [])) (patsOf (subT T_9 [])) (conOf CT) ["words"] XI)) (defBody (topS 1)) = some body_lacking_for_commit := by kernel_rfl
/-! ### lacks -/
theorem sc_lacks : FnScope ["head", "manner", "prepared", "committed", "aborted", "thanks", "presumed", "sent", "words"] ["head", "manner"] (defScope (topS 3)) := ⟨rfl, rfl, rfl, by decide +kernel, rfl, by decide +kernel, by decide +kernel⟩
def body_lacks : SM :=
  sSeq (sAsg (mVar 1) (Tg.tup (.cons (.name 2) (.cons (.name 3) (.cons (.name 4) (.cons (.name 5) (.cons (.name 6) (.cons (.name 7) (.nil)))))))).m)
  (sSeq (sAsg (mLst true []) (gmName 8))
  (sSeq (sIf (mTst (mOp (cmpD .NotEq) (mOp ixD (mVar 0) (mC (.int 1))) (mC (.str "forced")))) (sExpr (mMeth appendD (mVar 8) [mC (.str "head committed")])) (sNx))
  (sSeq (sIf (tmAnd (mTst (mOp (cmpD .NotEq) (mVar 2) (mC (.str "forced")))) (tmNot (mTru (mVar 7)))) (sExpr (mMeth appendD (mVar 8) [mC (.str "prepared")])) (sNx))
  (sSeq (sIf (mTst (mOp (cmpD .Eq) (mVar 6) (mC (.str "commit")))) (sExpr (mMeth extendD (mVar 8) [mFn F_lacking_for_abort [0, 1] [mVar 0, mVar 1] []])) (sNx))
  (sSeq (sIf (tmOr (mTst (mOp (cmpD .Eq) (mVar 6) (mC (.str "abort")))) (tmAnd (mTru (mVar 7)) (mTst (mOp (cmpD .NotEq) (mVar 2) (mC (.str "forced")))))) (sExpr (mMeth extendD (mVar 8) [mFn F_lacking_for_commit [0] [mVar 1] []])) (sNx))
  (sRet (mCall tupleD [mCall sortD [mVar 8]])))))))
def F_lacks : FI := ⟨["head", "manner"], runBody 9 body_lacks⟩
theorem cf_lacks {a0 a1 : D} {st : Sto} : callF F_lacks [a0, a1] st = F_lacks.run [a0, a1] st := callF_ok rfl
theorem ub_lacks {a0 a1 : D} {st : Sto} {Q : D → Sto → Prop} {X : XP} : wR (F_lacks.run [a0, a1] st) Q X = wS (body_lacks [some a0, some a1, none, none, none, none, none, none, none] st) (retP Q X) := w_body 9 body_lacks [a0, a1]
def T_11 : List Ent := ⟨"lacks", F_lacks, [(2, [])]⟩ :: T_10
theorem cp_lacks : cSs (cSt 8 FUEL 8 (ctxOf ["head", "manner", "prepared", "committed", "aborted", "thanks", "presumed", "sent", "words"] (defScope (topS 3)) (fnsOf (subT T_10 [1, 0])) (patsOf (subT T_10 [1, 0])) (conOf CT) ["words"] XI)) (defBody (topS 3)) = some body_lacks := by kernel_rfl
/-! ### fits -/
theorem sc_fits : FnScope ["head", "manner"] ["head", "manner"] (defScope (topS 4)) := ⟨rfl, rfl, rfl, by decide +kernel, rfl, by decide +kernel, by decide +kernel⟩
def body_fits : SM :=
  sRet (mOp (cmpD .Eq) (mFn F_lacks [0, 1] [mVar 0, mVar 1] []) (mTup []))
def F_fits : FI := ⟨["head", "manner"], runBody 2 body_fits⟩
theorem cf_fits {a0 a1 : D} {st : Sto} : callF F_fits [a0, a1] st = F_fits.run [a0, a1] st := callF_ok rfl
theorem ub_fits {a0 a1 : D} {st : Sto} {Q : D → Sto → Prop} {X : XP} : wR (F_fits.run [a0, a1] st) Q X = wS (body_fits [some a0, some a1] st) (retP Q X) := w_body 2 body_fits [a0, a1]
def T_12 : List Ent := ⟨"fits", F_fits, [(2, [])]⟩ :: T_11
theorem cp_fits : cSs (cSt 7 FUEL 7 (ctxOf ["head", "manner"] (defScope (topS 4)) (fnsOf (subT T_11 [0])) (patsOf (subT T_11 [0])) (conOf CT) [] XI)) (defBody (topS 4)) = some body_fits := by kernel_rfl
/-! ### alone_fits -/
theorem sc_alone_fits : FnScope ["head", "manner", "prepared", "committed", "aborted", "thanks", "presumed", "sent"] ["head", "manner"] (defScope (topS 5)) := ⟨rfl, rfl, rfl, by decide +kernel, rfl, by decide +kernel, by decide +kernel⟩
def body_alone_fits : SM :=
  sSeq (sAsg (mVar 1) (Tg.tup (.cons (.name 2) (.cons (.name 3) (.cons (.name 4) (.cons (.name 5) (.cons (.name 6) (.cons (.name 7) (.nil)))))))).m)
  (sSeq (sIf (tmOr (mTst (mOp (cmpD .NotEq) (mVar 6) (mC (.str "commit")))) (mTst (mOp (cmpD .NotIn) (mC (.str "abort")) (mVar 5)))) (sRet (mC (.bl false))) (sNx))
  (sSeq (sIf (tmOr (mTst (mOp (cmpD .NotEq) (mVar 2) (mC (.str "forced")))) (tmOr (mTst (mOp (cmpD .NotEq) (mVar 4) (mC (.str "forced")))) (mTst (mOp (cmpD .NotEq) (mOp ixD (mVar 0) (mC (.int 2))) (mC (.str "forced")))))) (sRet (mC (.bl false))) (sNx))
  (sRet (mOr (mOp (cmpD .Eq) (mOp ixD (mVar 0) (mC (.int 0))) (mC (.str "none"))) (mOp (cmpD .Eq) (mOp ixD (mVar 0) (mC (.int 1))) (mC (.str "forced")))))))
def F_alone_fits : FI := ⟨["head", "manner"], runBody 8 body_alone_fits⟩
theorem cf_alone_fits {a0 a1 : D} {st : Sto} : callF F_alone_fits [a0, a1] st = F_alone_fits.run [a0, a1] st := callF_ok rfl
theorem ub_alone_fits {a0 a1 : D} {st : Sto} {Q : D → Sto → Prop} {X : XP} : wR (F_alone_fits.run [a0, a1] st) Q X = wS (body_alone_fits [some a0, some a1, none, none, none, none, none, none] st) (retP Q X) := w_body 8 body_alone_fits [a0, a1]
def T_13 : List Ent := ⟨"alone_fits", F_alone_fits, [(2, [])]⟩ :: T_12
theorem cp_alone_fits : cSs (cSt 8 FUEL 8 (ctxOf ["head", "manner", "prepared", "committed", "aborted", "thanks", "presumed", "sent"] (defScope (topS 5)) (fnsOf (subT T_12 [])) (patsOf (subT T_12 [])) (conOf CT) [] XI)) (defBody (topS 5)) = some body_alone_fits := by kernel_rfl
/-! ### is_safe -/
theorem sc_is_safe : FnScope ["protocol", "head", "manners", "manner"] ["protocol"] (defScope (topS 6)) := ⟨rfl, rfl, rfl, by decide +kernel, rfl, by decide +kernel, by decide +kernel⟩
def body_is_safe : SM :=
  sSeq (sAsg (mVar 0) (Tg.tup (.cons (.name 1) (.cons (.name 2) (.nil)))).m)
  (sSeq (sIf (tmAnd (mTst (mOp (cmpD .Eq) (mCall lenD [mVar 2]) (mC (.int 1)))) (mTru (mFn F_alone_fits [0, 1] [mVar 1, mOp ixD (mVar 2) (mC (.int 0))] []))) (sRet (mC (.bl true))) (sNx))
  (sRet (mAA true (imSeq (mVar 2)) [3] (Tg.name 3).m (mFn F_fits [0, 1] [mVar 1, mVar 3] []))))
def F_is_safe : FI := ⟨["protocol"], runBody 4 body_is_safe⟩
theorem cf_is_safe {a0 : D} {st : Sto} : callF F_is_safe [a0] st = F_is_safe.run [a0] st := callF_ok rfl
theorem ub_is_safe {a0 : D} {st : Sto} {Q : D → Sto → Prop} {X : XP} : wR (F_is_safe.run [a0] st) Q X = wS (body_is_safe [some a0, none, none, none] st) (retP Q X) := w_body 4 body_is_safe [a0]
def T_14 : List Ent := ⟨"is_safe", F_is_safe, [(1, []), (0, ["protocol"])]⟩ :: T_13
theorem cp_is_safe : cSs (cSt 8 FUEL 8 (ctxOfG "is_safe" ["protocol", "head", "manners", "manner"] (defScope (topS 6)) (fnsOf (subT T_13 [1, 0])) (patsOf (subT T_13 [1, 0])) (conOf CT) [] XI)) (defBody (topS 6)) = some body_is_safe := by kernel_rfl
/-! ### _law_lacks -/
theorem sc_w_lacks : FnScope ["head", "manner", "prepared", "committed", "aborted", "thanks", "presumed", "sent", "found"] ["head", "manner"] (defScope (topS 16)) := ⟨rfl, rfl, rfl, by decide +kernel, rfl, by decide +kernel, by decide +kernel⟩
def body_w_lacks : SM :=
  sSeq (sAsg (mVar 1) (Tg.tup (.cons (.name 2) (.cons (.name 3) (.cons (.name 4) (.cons (.name 5) (.cons (.name 6) (.cons (.name 7) (.nil)))))))).m)
  (sSeq (sAsg (mLst true []) (gmName 8))
  (sSeq (sIf (mTst (mOp (cmpD .NotEq) (mOp ixD (mVar 0) (mC (.int 1))) (mC (.str "forced")))) (sExpr (mMeth appendD (mVar 8) [mC (.str "head committed")])) (sNx))
  (sSeq (sIf (tmAnd (mTst (mOp (cmpD .NotEq) (mVar 2) (mC (.str "forced")))) (tmNot (mTru (mVar 7)))) (sExpr (mMeth appendD (mVar 8) [mC (.str "prepared")])) (sNx))
  (sSeq (sIf (tmAnd (mTst (mOp (cmpD .Eq) (mVar 6) (mC (.str "commit")))) (mTst (mOp (cmpD .NotEq) (mOp ixD (mVar 0) (mC (.int 0))) (mC (.str "forced"))))) (sExpr (mMeth appendD (mVar 8) [mC (.str "begun")])) (sNx))
  (sSeq (sIf (tmAnd (mTst (mOp (cmpD .Eq) (mVar 6) (mC (.str "commit")))) (mTst (mOp (cmpD .NotIn) (mC (.str "abort")) (mVar 5)))) (sExpr (mMeth appendD (mVar 8) [mC (.str "thanks abort")])) (sNx))
  (sSeq (sIf (tmAnd (mTst (mOp (cmpD .Eq) (mVar 6) (mC (.str "commit")))) (tmAnd (mTst (mOp (cmpD .NotEq) (mVar 4) (mC (.str "forced")))) (mTst (mOp (cmpD .NotEq) (mVar 2) (mC (.str "none")))))) (sExpr (mMeth appendD (mVar 8) [mC (.str "aborted")])) (sNx))
  (sSeq (sIf (tmOr (mTst (mOp (cmpD .Eq) (mVar 6) (mC (.str "abort")))) (tmAnd (mTru (mVar 7)) (mTst (mOp (cmpD .NotEq) (mVar 2) (mC (.str "forced")))))) (sSeq (sIf (mTst (mOp (cmpD .NotEq) (mVar 3) (mC (.str "forced")))) (sExpr (mMeth appendD (mVar 8) [mC (.str "committed")])) (sNx))
  (sIf (mTst (mOp (cmpD .NotIn) (mC (.str "commit")) (mVar 5))) (sExpr (mMeth appendD (mVar 8) [mC (.str "thanks commit")])) (sNx))) (sNx))
  (sRet (mCall tupleD [mCall sortD [mVar 8]])))))))))
def F_w_lacks : FI := ⟨["head", "manner"], runBody 9 body_w_lacks⟩
theorem cf_w_lacks {a0 a1 : D} {st : Sto} : callF F_w_lacks [a0, a1] st = F_w_lacks.run [a0, a1] st := callF_ok rfl
theorem ub_w_lacks {a0 a1 : D} {st : Sto} {Q : D → Sto → Prop} {X : XP} : wR (F_w_lacks.run [a0, a1] st) Q X = wS (body_w_lacks [some a0, some a1, none, none, none, none, none, none, none] st) (retP Q X) := w_body 9 body_w_lacks [a0, a1]
def T_15 : List Ent := ⟨"_law_lacks", F_w_lacks, [(2, [])]⟩ :: T_14
theorem cp_w_lacks : cSs (cSt 9 FUEL 9 (ctxOf ["head", "manner", "prepared", "committed", "aborted", "thanks", "presumed", "sent", "found"] (defScope (topS 16)) (fnsOf (subT T_14 [])) (patsOf (subT T_14 [])) (conOf CT) ["found"] XI)) (defBody (topS 16)) = some body_w_lacks := by kernel_rfl
/-! ### _law_is_safe -/
theorem sc_w_is_safe : FnScope ["protocol", "head", "manners", "forced", "manner"] ["protocol"] (defScope (topS 17)) := ⟨rfl, rfl, rfl, by decide +kernel, rfl, by decide +kernel, by decide +kernel⟩
def body_w_is_safe : SM :=
  sSeq (sAsg (mVar 0) (Tg.tup (.cons (.name 1) (.cons (.name 2) (.nil)))).m)
  (sSeq (sIf (mTst (mOp (cmpD .Eq) (mLc false (imSeq (mVar 2)) [4] (Tg.name 4).m (mTst (mOp (cmpD .NotEq) (mFn F_w_lacks [0, 1] [mVar 1, mVar 4] []) (mTup []))) (mVar 4)) (mLst false []))) (sRet (mC (.bl true))) (sNx))
  (sSeq (sIf (tmOr (mTst (mOp (cmpD .Gt) (mCall lenD [mVar 2]) (mC (.int 1)))) (tmOr (mTst (mOp (cmpD .NotEq) (mOp ixD (mOp ixD (mVar 2) (mC (.int 0))) (mC (.int 4))) (mC (.str "commit")))) (mTst (mOp (cmpD .NotIn) (mC (.str "abort")) (mOp ixD (mOp ixD (mVar 2) (mC (.int 0))) (mC (.int 3))))))) (sRet (mC (.bl false))) (sNx))
  (sSeq (sAsg (mOp (cmpD .Eq) (mLst false [mOp ixD (mOp ixD (mVar 2) (mC (.int 0))) (mC (.int 0)), mOp ixD (mOp ixD (mVar 2) (mC (.int 0))) (mC (.int 2)), mOp ixD (mVar 1) (mC (.int 2))]) (mLMul false [mC (.str "forced")] (mC (.int 3)))) (gmName 3))
  (sRet (mAnd (mVar 3) (mOr (mOp (cmpD .Eq) (mOp ixD (mVar 1) (mC (.int 0))) (mC (.str "none"))) (mOp (cmpD .Eq) (mOp ixD (mVar 1) (mC (.int 1))) (mC (.str "forced")))))))))
def F_w_is_safe : FI := ⟨["protocol"], runBody 5 body_w_is_safe⟩
theorem cf_w_is_safe {a0 : D} {st : Sto} : callF F_w_is_safe [a0] st = F_w_is_safe.run [a0] st := callF_ok rfl
theorem ub_w_is_safe {a0 : D} {st : Sto} {Q : D → Sto → Prop} {X : XP} : wR (F_w_is_safe.run [a0] st) Q X = wS (body_w_is_safe [some a0, none, none, none, none] st) (retP Q X) := w_body 5 body_w_is_safe [a0]
def T_16 : List Ent := ⟨"_law_is_safe", F_w_is_safe, [(1, [])]⟩ :: T_15
theorem cp_w_is_safe : cSs (cSt 10 FUEL 10 (ctxOf ["protocol", "head", "manners", "forced", "manner"] (defScope (topS 17)) (fnsOf (subT T_15 [0])) (patsOf (subT T_15 [0])) (conOf CT) [] XI)) (defBody (topS 17)) = some body_w_is_safe := by kernel_rfl
/-! ### _law_is_more_right -/
theorem sc_w_is_more_right : FnScope ["deck", "protocol", "manner", "head", "manners", "is_now", "spot", "wider", "is_fit"] ["deck", "protocol", "manner"] (defScope (topS 19)) := ⟨rfl, rfl, rfl, by decide +kernel, rfl, by decide +kernel, by decide +kernel⟩
def body_w_is_more_right : SM :=
  sSeq (sAsg (mVar 1) (Tg.tup (.cons (.name 3) (.cons (.name 4) (.nil)))).m)
  (sSeq (sPar 5 6 (mFn F_is_safe [0] [mVar 1] []) (mFn F_w_draw [0, 1] [mVar 0, mOp (addD false) (mCall lenD [mVar 4]) (mC (.int 1))] []))
  (sSeq (sAsg (mTup [mVar 3, mOp (addD false) (mOp (addD false) (mSlice false (mVar 4) pmNone (pmSome (mVar 6))) (mTup [mVar 2])) (mSlice false (mVar 4) (pmSome (mVar 6)) pmNone)]) (gmName 7))
  (sSeq (sIf (mTst (mOp (cmpD .NotEq) (mCall reprD [mVar 5]) (mCall reprD [mFn F_w_is_safe [0] [mVar 1] []]))) (sRet (mC (.bl false))) (sNx))
  (sSeq (sAsg (mFn F_fits [0, 1] [mVar 3, mVar 2] []) (gmName 8))
  (sRet (mAnd (mOp (cmpD .Eq) (mCall reprD [mFn F_is_safe [0] [mVar 7] []]) (mCall reprD [mAnd (mVar 5) (mVar 8)])) (mOp (cmpD .Eq) (mCall reprD [mVar 8]) (mCall reprD [mOp (cmpD .Eq) (mFn F_w_lacks [0, 1] [mVar 3, mVar 2] []) (mTup [])]))))))))
def F_w_is_more_right : FI := ⟨["deck", "protocol", "manner"], runBody 9 body_w_is_more_right⟩
theorem cf_w_is_more_right {a0 a1 a2 : D} {st : Sto} : callF F_w_is_more_right [a0, a1, a2] st = F_w_is_more_right.run [a0, a1, a2] st := callF_ok rfl
theorem ub_w_is_more_right {a0 a1 a2 : D} {st : Sto} {Q : D → Sto → Prop} {X : XP} : wR (F_w_is_more_right.run [a0, a1, a2] st) Q X = wS (body_w_is_more_right [some a0, some a1, some a2, none, none, none, none, none, none] st) (retP Q X) := w_body 9 body_w_is_more_right [a0, a1, a2]
def T_17 : List Ent := ⟨"_law_is_more_right", F_w_is_more_right, [(3, [])]⟩ :: T_16
theorem cp_w_is_more_right : cSs (cSt 10 FUEL 10 (ctxOf ["deck", "protocol", "manner", "head", "manners", "is_now", "spot", "wider", "is_fit"] (defScope (topS 19)) (fnsOf (subT T_16 [14, 4, 2, 1, 0])) (patsOf (subT T_16 [14, 4, 2, 1, 0])) (conOf CT) ["deck"] XI)) (defBody (topS 19)) = some body_w_is_more_right := by kernel_rfl
/-! ### _law_are_alike_right -/
theorem sc_w_are_alike_right : FnScope ["head", "manner", "is_named", "due", "found", "many", "protocol"] ["head", "manner", "is_named"] (defScope (topS 18)) := ⟨rfl, rfl, rfl, by decide +kernel, rfl, by decide +kernel, by decide +kernel⟩
def body_w_are_alike_right : SM :=
  sSeq (sPar 3 4 (mOp (cmpD .Eq) (mFn F_w_lacks [0, 1] [mVar 0, mVar 1] []) (mTup [])) (mLst true []))
  (sSeq (sFor (imR2 (mC (.int 2)) (mC (.int 7))) (Tg.name 5).m (sSeq (sAsg (mTup [mVar 0, mOp mulD (mTup [mVar 1]) (mVar 5)]) (gmName 6))
  (sExpr (mMeth appendD (mVar 4) [mIf (tmAnd (mTru (mVar 2)) (mTst (mOp (cmpD .Eq) (mVar 5) (mC (.int 3))))) (mFn F_is_safe [0] [] [mVar 6]) (mFn F_is_safe [0] [mVar 6] [])]))))
  (sSeq (sIf (mTst (mOp (cmpD .NotEq) (mCall reprD [mVar 4]) (mCall reprD [mLMul false [mVar 3] (mC (.int 5))]))) (sRet (mC (.bl false))) (sNx))
  (sRet (mOp (cmpD .Eq) (mCall reprD [mFn F_is_safe [0] [mTup [mVar 0, mTup [mVar 1]]] []]) (mCall reprD [mFn F_w_is_safe [0] [mTup [mVar 0, mTup [mVar 1]]] []])))))
def F_w_are_alike_right : FI := ⟨["head", "manner", "is_named"], runBody 7 body_w_are_alike_right⟩
theorem cf_w_are_alike_right {a0 a1 a2 : D} {st : Sto} : callF F_w_are_alike_right [a0, a1, a2] st = F_w_are_alike_right.run [a0, a1, a2] st := callF_ok rfl
theorem ub_w_are_alike_right {a0 a1 a2 : D} {st : Sto} {Q : D → Sto → Prop} {X : XP} : wR (F_w_are_alike_right.run [a0, a1, a2] st) Q X = wS (body_w_are_alike_right [some a0, some a1, some a2, none, none, none, none] st) (retP Q X) := w_body 7 body_w_are_alike_right [a0, a1, a2]
def T_18 : List Ent := ⟨"_law_are_alike_right", F_w_are_alike_right, [(3, [])]⟩ :: T_17
theorem cp_w_are_alike_right : cSs (cSt 10 FUEL 10 (ctxOf ["head", "manner", "is_named", "due", "found", "many", "protocol"] (defScope (topS 18)) (fnsOf (subT T_17 [3, 2, 1])) (patsOf (subT T_17 [3, 2, 1])) (conOf CT) ["found"] XI)) (defBody (topS 18)) = some body_w_are_alike_right := by kernel_rfl
/-! ### law -/
theorem sc_law : FnScope ["script", "deck", "turn", "head", "manner", "known", "manners", "more"] ["script"] (defScope (topS 20)) := ⟨rfl, rfl, rfl, by decide +kernel, rfl, by decide +kernel, by decide +kernel⟩
def body_law : SM :=
  sSeq (sAsg (mFn F_w_deck [0] [mVar 0] []) (gmName 1))
  (sSeq (sFor (imR1 (mC (.int 6))) (Tg.name 2).m (sSeq (sAsg (mFn F_w_protocol [0, 1] [mVar 1, mC (.int 1)] []) (Tg.tup (.cons (.name 3) (.cons (.tup (.cons (.name 4) (.nil))) (.nil)))).m)
  (sSeq (sAsg (mCall reprD [mLst false [mVar 3, mVar 4]]) (gmName 5))
  (sSeq (sIf (tmOr (tmNot (mTru (mFn F_w_are_alike_right [0, 1, 2] [mVar 3, mVar 4, mOp (cmpD .Eq) (mVar 2) (mC (.int 1))] []))) (mTst (mOp (cmpD .NotEq) (mCall reprD [mLst false [mVar 3, mVar 4]]) (mVar 5)))) (sRet (mC (.bl false))) (sNx))
  (sSeq (sAsg (mFn F_w_protocol [0, 1] [mVar 1, mOp (addD false) (mC (.int 2)) (mFn F_w_draw [0, 1] [mVar 1, mC (.int 4)] [])] []) (Tg.tup (.cons (.name 3) (.cons (.name 6) (.nil)))).m)
  (sSeq (sAsg (mIf (tmOr (mTst (mOp (cmpD .Eq) (mOp (arD .Mod) (mVar 2) (mC (.int 2))) (mC (.int 0)))) (mTst (mOp (cmpD .NotEq) (mOp ixD (mVar 3) (mC (.int 1))) (mC (.str "forced"))))) (mFn F_w_any_manner [0] [mVar 1] []) (mFn F_w_fit_manner [0, 1] [mVar 1, mVar 3] [])) (gmName 7))
  (sIf (tmNot (mTru (mFn F_w_is_more_right [0, 1, 2] [mVar 1, mTup [mVar 3, mVar 6], mVar 7] []))) (sRet (mC (.bl false))) (sNx))))))))
  (sRet (mC (.bl true))))
def F_law : FI := ⟨["script"], runBody 8 body_law⟩
theorem cf_law {a0 : D} {st : Sto} : callF F_law [a0] st = F_law.run [a0] st := callF_ok rfl
theorem ub_law {a0 : D} {st : Sto} {Q : D → Sto → Prop} {X : XP} : wR (F_law.run [a0] st) Q X = wS (body_law [some a0, none, none, none, none, none, none, none] st) (retP Q X) := w_body 8 body_law [a0]
def T_19 : List Ent := ⟨"law", F_law, [(1, [])]⟩ :: T_18
theorem cp_law : cSs (cSt 10 FUEL 10 (ctxOf ["script", "deck", "turn", "head", "manner", "known", "manners", "more"] (defScope (topS 20)) (fnsOf (subT T_18 [17, 16, 12, 11, 10, 1, 0])) (patsOf (subT T_18 [17, 16, 12, 11, 10, 1, 0])) (conOf CT) ["deck"] XI)) (defBody (topS 20)) = some body_law := by kernel_rfl
/-! ### what the top has written -/
theorem all_mk {P : Program} {w : World} {K : PySem.W.Frag} {h base : Heap} {mg : Str → Option Value} (X : K.In h) (G : h.Ns mainGlobals mg) (TB : ∀ p ∈ tabPairs K, GxR.TabB base mg p.1 p.2)
    {od1 an1 : Option Addr} {sl1 : Array (Option Value)} {oc1 kV1 dc1 pm1 cd1 ct1 : Value} {f1 : Addr}
    {od2 an2 : Option Addr} {sl2 : Array (Option Value)} {oc2 kV2 dc2 pm2 cd2 ct2 : Value} {f2 : Addr}
    {od3 an3 : Option Addr} {sl3 : Array (Option Value)} {oc3 kV3 dc3 pm3 cd3 ct3 : Value} {f3 : Addr}
    {od4 an4 : Option Addr} {sl4 : Array (Option Value)} {oc4 kV4 dc4 pm4 cd4 ct4 : Value} {f4 : Addr}
    {od5 an5 : Option Addr} {sl5 : Array (Option Value)} {oc5 kV5 dc5 pm5 cd5 ct5 : Value} {f5 : Addr}
    {od6 an6 : Option Addr} {sl6 : Array (Option Value)} {oc6 kV6 dc6 pm6 cd6 ct6 : Value} {f6 : Addr}
    {od7 an7 : Option Addr} {sl7 : Array (Option Value)} {oc7 kV7 dc7 pm7 cd7 ct7 : Value} {f7 : Addr}
    {od8 an8 : Option Addr} {sl8 : Array (Option Value)} {oc8 kV8 dc8 pm8 cd8 ct8 : Value} {f8 : Addr}
    {od9 an9 : Option Addr} {sl9 : Array (Option Value)} {oc9 kV9 dc9 pm9 cd9 ct9 : Value} {f9 : Addr}
    {od10 an10 : Option Addr} {sl10 : Array (Option Value)} {oc10 kV10 dc10 pm10 cd10 ct10 : Value} {f10 : Addr}
    {od11 an11 : Option Addr} {sl11 : Array (Option Value)} {oc11 kV11 dc11 pm11 cd11 ct11 : Value} {f11 : Addr}
    {od12 an12 : Option Addr} {sl12 : Array (Option Value)} {oc12 kV12 dc12 pm12 cd12 ct12 : Value} {f12 : Addr}
    {od13 an13 : Option Addr} {sl13 : Array (Option Value)} {oc13 kV13 dc13 pm13 cd13 ct13 : Value} {f13 : Addr}
    {od14 an14 : Option Addr} {sl14 : Array (Option Value)} {oc14 kV14 dc14 pm14 cd14 ct14 : Value} {f14 : Addr}
    {od15 an15 : Option Addr} {sl15 : Array (Option Value)} {oc15 kV15 dc15 pm15 cd15 ct15 : Value} {f15 : Addr}
    {od16 an16 : Option Addr} {sl16 : Array (Option Value)} {oc16 kV16 dc16 pm16 cd16 ct16 : Value} {f16 : Addr}
    {od17 an17 : Option Addr} {sl17 : Array (Option Value)} {oc17 kV17 dc17 pm17 cd17 ct17 : Value} {f17 : Addr}
    {od18 an18 : Option Addr} {sl18 : Array (Option Value)} {oc18 kV18 dc18 pm18 cd18 ct18 : Value} {f18 : Addr}
    {od19 an19 : Option Addr} {sl19 : Array (Option Value)} {oc19 kV19 dc19 pm19 cd19 ct19 : Value} {f19 : Addr}
    {tc_is_safe tp_is_safe : Addr} {tv_is_safe : Value} {td_is_safe : Option Addr} {tu_is_safe : Array Value} {ts_is_safe : Array (Option Value)}
    (a1 : PySem.W.nsIn K mainGlobals "_law_deck" = some (some (.ref f1)))
    (l1 : K.lookup f1 = some ⟨oc1, od1, .func (PySem.W.fnOf "_law_deck" "_law_deck" (defArgs (topS 8)) (defBody (topS 8)) (defScope (topS 8)) .none kV1 dc1 pm1 an1 cd1 ct1), sl1⟩)
    (c1 : PySem.W.codeIn K cd1 "_law_deck" = true)
    (k1 : PySem.W.keepIn K (.ref f1) = true)
    (a2 : PySem.W.nsIn K mainGlobals "_law_draw" = some (some (.ref f2)))
    (l2 : K.lookup f2 = some ⟨oc2, od2, .func (PySem.W.fnOf "_law_draw" "_law_draw" (defArgs (topS 9)) (defBody (topS 9)) (defScope (topS 9)) .none kV2 dc2 pm2 an2 cd2 ct2), sl2⟩)
    (c2 : PySem.W.codeIn K cd2 "_law_draw" = true)
    (k2 : PySem.W.keepIn K (.ref f2) = true)
    (a3 : PySem.W.nsIn K mainGlobals "_law_pick" = some (some (.ref f3)))
    (l3 : K.lookup f3 = some ⟨oc3, od3, .func (PySem.W.fnOf "_law_pick" "_law_pick" (defArgs (topS 10)) (defBody (topS 10)) (defScope (topS 10)) .none kV3 dc3 pm3 an3 cd3 ct3), sl3⟩)
    (c3 : PySem.W.codeIn K cd3 "_law_pick" = true)
    (k3 : PySem.W.keepIn K (.ref f3) = true)
    (a4 : PySem.W.nsIn K mainGlobals "_law_head" = some (some (.ref f4)))
    (l4 : K.lookup f4 = some ⟨oc4, od4, .func (PySem.W.fnOf "_law_head" "_law_head" (defArgs (topS 12)) (defBody (topS 12)) (defScope (topS 12)) .none kV4 dc4 pm4 an4 cd4 ct4), sl4⟩)
    (c4 : PySem.W.codeIn K cd4 "_law_head" = true)
    (k4 : PySem.W.keepIn K (.ref f4) = true)
    (a5 : PySem.W.nsIn K mainGlobals "_law_turned" = some (some (.ref f5)))
    (l5 : K.lookup f5 = some ⟨oc5, od5, .func (PySem.W.fnOf "_law_turned" "_law_turned" (defArgs (topS 14)) (defBody (topS 14)) (defScope (topS 14)) .none kV5 dc5 pm5 an5 cd5 ct5), sl5⟩)
    (c5 : PySem.W.codeIn K cd5 "_law_turned" = true)
    (k5 : PySem.W.keepIn K (.ref f5) = true)
    (a6 : PySem.W.nsIn K mainGlobals "_law_any_manner" = some (some (.ref f6)))
    (l6 : K.lookup f6 = some ⟨oc6, od6, .func (PySem.W.fnOf "_law_any_manner" "_law_any_manner" (defArgs (topS 11)) (defBody (topS 11)) (defScope (topS 11)) .none kV6 dc6 pm6 an6 cd6 ct6), sl6⟩)
    (c6 : PySem.W.codeIn K cd6 "_law_any_manner" = true)
    (k6 : PySem.W.keepIn K (.ref f6) = true)
    (a7 : PySem.W.nsIn K mainGlobals "_law_fit_manner" = some (some (.ref f7)))
    (l7 : K.lookup f7 = some ⟨oc7, od7, .func (PySem.W.fnOf "_law_fit_manner" "_law_fit_manner" (defArgs (topS 13)) (defBody (topS 13)) (defScope (topS 13)) .none kV7 dc7 pm7 an7 cd7 ct7), sl7⟩)
    (c7 : PySem.W.codeIn K cd7 "_law_fit_manner" = true)
    (k7 : PySem.W.keepIn K (.ref f7) = true)
    (a8 : PySem.W.nsIn K mainGlobals "_law_protocol" = some (some (.ref f8)))
    (l8 : K.lookup f8 = some ⟨oc8, od8, .func (PySem.W.fnOf "_law_protocol" "_law_protocol" (defArgs (topS 15)) (defBody (topS 15)) (defScope (topS 15)) .none kV8 dc8 pm8 an8 cd8 ct8), sl8⟩)
    (c8 : PySem.W.codeIn K cd8 "_law_protocol" = true)
    (k8 : PySem.W.keepIn K (.ref f8) = true)
    (a9 : PySem.W.nsIn K mainGlobals "lacking_for_abort" = some (some (.ref f9)))
    (l9 : K.lookup f9 = some ⟨oc9, od9, .func (PySem.W.fnOf "lacking_for_abort" "lacking_for_abort" (defArgs (topS 2)) (defBody (topS 2)) (defScope (topS 2)) .none kV9 dc9 pm9 an9 cd9 ct9), sl9⟩)
    (c9 : PySem.W.codeIn K cd9 "lacking_for_abort" = true)
    (k9 : PySem.W.keepIn K (.ref f9) = true)
    (a10 : PySem.W.nsIn K mainGlobals "lacking_for_commit" = some (some (.ref f10)))
    (l10 : K.lookup f10 = some ⟨oc10, od10, .func (PySem.W.fnOf "lacking_for_commit" "lacking_for_commit" (defArgs (topS 1)) (defBody (topS 1)) (defScope (topS 1)) .none kV10 dc10 pm10 an10 cd10 ct10), sl10⟩)
    (c10 : PySem.W.codeIn K cd10 "lacking_for_commit" = true)
    (k10 : PySem.W.keepIn K (.ref f10) = true)
    (a11 : PySem.W.nsIn K mainGlobals "lacks" = some (some (.ref f11)))
    (l11 : K.lookup f11 = some ⟨oc11, od11, .func (PySem.W.fnOf "lacks" "lacks" (defArgs (topS 3)) (defBody (topS 3)) (defScope (topS 3)) .none kV11 dc11 pm11 an11 cd11 ct11), sl11⟩)
    (c11 : PySem.W.codeIn K cd11 "lacks" = true)
    (k11 : PySem.W.keepIn K (.ref f11) = true)
    (a12 : PySem.W.nsIn K mainGlobals "fits" = some (some (.ref f12)))
    (l12 : K.lookup f12 = some ⟨oc12, od12, .func (PySem.W.fnOf "fits" "fits" (defArgs (topS 4)) (defBody (topS 4)) (defScope (topS 4)) .none kV12 dc12 pm12 an12 cd12 ct12), sl12⟩)
    (c12 : PySem.W.codeIn K cd12 "fits" = true)
    (k12 : PySem.W.keepIn K (.ref f12) = true)
    (a13 : PySem.W.nsIn K mainGlobals "alone_fits" = some (some (.ref f13)))
    (l13 : K.lookup f13 = some ⟨oc13, od13, .func (PySem.W.fnOf "alone_fits" "alone_fits" (defArgs (topS 5)) (defBody (topS 5)) (defScope (topS 5)) .none kV13 dc13 pm13 an13 cd13 ct13), sl13⟩)
    (c13 : PySem.W.codeIn K cd13 "alone_fits" = true)
    (k13 : PySem.W.keepIn K (.ref f13) = true)
    (a14 : PySem.W.nsIn K mainGlobals "is_safe" = some (some (.ref f14)))
    (l14 : K.lookup f14 = some ⟨oc14, od14, .func (PySem.W.fnOf "is_safe" "is_safe" (defArgs (topS 6)) (defBody (topS 6)) (defScope (topS 6)) .none kV14 dc14 pm14 an14 cd14 ct14), sl14⟩)
    (c14 : PySem.W.codeIn K cd14 "is_safe" = true)
    (k14 : PySem.W.keepIn K (.ref f14) = true)
    (a15 : PySem.W.nsIn K mainGlobals "_law_lacks" = some (some (.ref f15)))
    (l15 : K.lookup f15 = some ⟨oc15, od15, .func (PySem.W.fnOf "_law_lacks" "_law_lacks" (defArgs (topS 16)) (defBody (topS 16)) (defScope (topS 16)) .none kV15 dc15 pm15 an15 cd15 ct15), sl15⟩)
    (c15 : PySem.W.codeIn K cd15 "_law_lacks" = true)
    (k15 : PySem.W.keepIn K (.ref f15) = true)
    (a16 : PySem.W.nsIn K mainGlobals "_law_is_safe" = some (some (.ref f16)))
    (l16 : K.lookup f16 = some ⟨oc16, od16, .func (PySem.W.fnOf "_law_is_safe" "_law_is_safe" (defArgs (topS 17)) (defBody (topS 17)) (defScope (topS 17)) .none kV16 dc16 pm16 an16 cd16 ct16), sl16⟩)
    (c16 : PySem.W.codeIn K cd16 "_law_is_safe" = true)
    (k16 : PySem.W.keepIn K (.ref f16) = true)
    (a17 : PySem.W.nsIn K mainGlobals "_law_is_more_right" = some (some (.ref f17)))
    (l17 : K.lookup f17 = some ⟨oc17, od17, .func (PySem.W.fnOf "_law_is_more_right" "_law_is_more_right" (defArgs (topS 19)) (defBody (topS 19)) (defScope (topS 19)) .none kV17 dc17 pm17 an17 cd17 ct17), sl17⟩)
    (c17 : PySem.W.codeIn K cd17 "_law_is_more_right" = true)
    (k17 : PySem.W.keepIn K (.ref f17) = true)
    (a18 : PySem.W.nsIn K mainGlobals "_law_are_alike_right" = some (some (.ref f18)))
    (l18 : K.lookup f18 = some ⟨oc18, od18, .func (PySem.W.fnOf "_law_are_alike_right" "_law_are_alike_right" (defArgs (topS 18)) (defBody (topS 18)) (defScope (topS 18)) .none kV18 dc18 pm18 an18 cd18 ct18), sl18⟩)
    (c18 : PySem.W.codeIn K cd18 "_law_are_alike_right" = true)
    (k18 : PySem.W.keepIn K (.ref f18) = true)
    (a19 : PySem.W.nsIn K mainGlobals "law" = some (some (.ref f19)))
    (l19 : K.lookup f19 = some ⟨oc19, od19, .func (PySem.W.fnOf "law" "law" (defArgs (topS 20)) (defBody (topS 20)) (defScope (topS 20)) .none kV19 dc19 pm19 an19 cd19 ct19), sl19⟩)
    (c19 : PySem.W.codeIn K cd19 "law" = true)
    (k19 : PySem.W.keepIn K (.ref f19) = true)
    (z_len : PySem.W.nsIn K mainGlobals "len" = some none)
    (z_abs : PySem.W.nsIn K mainGlobals "abs" = some none)
    (z_repr : PySem.W.nsIn K mainGlobals "repr" = some none)
    (z_isinstance : PySem.W.nsIn K mainGlobals "isinstance" = some none)
    (z_int : PySem.W.nsIn K mainGlobals "int" = some none)
    (z_list : PySem.W.nsIn K mainGlobals "list" = some none)
    (z_tuple : PySem.W.nsIn K mainGlobals "tuple" = some none)
    (z_str : PySem.W.nsIn K mainGlobals "str" = some none)
    (z_bool : PySem.W.nsIn K mainGlobals "bool" = some none)
    (z_dict : PySem.W.nsIn K mainGlobals "dict" = some none)
    (z_range : PySem.W.nsIn K mainGlobals "range" = some none)
    (z_enumerate : PySem.W.nsIn K mainGlobals "enumerate" = some none)
    (z_zip : PySem.W.nsIn K mainGlobals "zip" = some none)
    (z_sorted : PySem.W.nsIn K mainGlobals "sorted" = some none)
    (z_any : PySem.W.nsIn K mainGlobals "any" = some none)
    (z_all : PySem.W.nsIn K mainGlobals "all" = some none)
    (z_set : PySem.W.nsIn K mainGlobals "set" = some none)
    (z_min : PySem.W.nsIn K mainGlobals "min" = some none)
    (z_max : PySem.W.nsIn K mainGlobals "max" = some none)
    (z_sum : PySem.W.nsIn K mainGlobals "sum" = some none)
    (z_reversed : PySem.W.nsIn K mainGlobals "reversed" = some none)
    (te_is_safe : cd14 = .ref tc_is_safe)
    (tq_is_safe : K.lookup tc_is_safe = some ⟨tv_is_safe, td_is_safe, .fields tu_is_safe, ts_is_safe⟩)
    (tz_is_safe : tu_is_safe[11]? = some (.ref tp_is_safe))
    : AllG P w K mg base 20 T_19 := by
  have hC : AllC K mg CT := .nil
  have hz : ∀ y ∈ blts, mg y = none := blt_cons (PySem.W.mg_none_of X G z_len) (blt_cons (PySem.W.mg_none_of X G z_abs) (blt_cons (PySem.W.mg_none_of X G z_repr) (blt_cons (PySem.W.mg_none_of X G z_isinstance) (blt_cons (PySem.W.mg_none_of X G z_int) (blt_cons (PySem.W.mg_none_of X G z_list) (blt_cons (PySem.W.mg_none_of X G z_tuple) (blt_cons (PySem.W.mg_none_of X G z_str) (blt_cons (PySem.W.mg_none_of X G z_bool) (blt_cons (PySem.W.mg_none_of X G z_dict) (blt_cons (PySem.W.mg_none_of X G z_range) (blt_cons (PySem.W.mg_none_of X G z_enumerate) (blt_cons (PySem.W.mg_none_of X G z_zip) (blt_cons (PySem.W.mg_none_of X G z_sorted) (blt_cons (PySem.W.mg_none_of X G z_any) (blt_cons (PySem.W.mg_none_of X G z_all) (blt_cons (PySem.W.mg_none_of X G z_set) (blt_cons (PySem.W.mg_none_of X G z_min) (blt_cons (PySem.W.mg_none_of X G z_max) (blt_cons (PySem.W.mg_none_of X G z_sum) (blt_cons (PySem.W.mg_none_of X G z_reversed) (blt_nil)))))))))))))))))))))
  have hx : ExOk P w K mg XI := exOk_mk (all_nil) (all_nil) (all_nil) (all_nil)
  have A0 : AllG P w K mg base 0 T_0 := AllG.nil
  have A1 : AllG P w K mg base 1 T_1 := AllG.step A0 [] (fun_mk (st := topS 8) l1 c1 k1) sc_w_deck cp_w_deck (PySem.W.mg_of X G a1) (BndAll.cons [0] (by decide +kernel) (fun s us ws h1 h2 => match us, ws, h1, h2 with | [_], [], _, _ => .of_eq rfl) (BndAll.nil)) hC hz hx
  have A2 : AllG P w K mg base 2 T_2 := AllG.step A1 [] (fun_mk (st := topS 9) l2 c2 k2) sc_w_draw cp_w_draw (PySem.W.mg_of X G a2) (BndAll.cons [0, 1] (by decide +kernel) (fun s us ws h1 h2 => match us, ws, h1, h2 with | [_, _], [], _, _ => .of_eq rfl) (BndAll.nil)) hC hz hx
  have A3 : AllG P w K mg base 3 T_3 := AllG.step A2 [0] (fun_mk (st := topS 10) l3 c3 k3) sc_w_pick cp_w_pick (PySem.W.mg_of X G a3) (BndAll.cons [0, 1] (by decide +kernel) (fun s us ws h1 h2 => match us, ws, h1, h2 with | [_, _], [], _, _ => .of_eq rfl) (BndAll.nil)) hC hz hx
  have A4 : AllG P w K mg base 4 T_4 := AllG.step A3 [1, 0] (fun_mk (st := topS 12) l4 c4 k4) sc_w_head cp_w_head (PySem.W.mg_of X G a4) (BndAll.cons [0] (by decide +kernel) (fun s us ws h1 h2 => match us, ws, h1, h2 with | [_], [], _, _ => .of_eq rfl) (BndAll.nil)) hC hz hx
  have A5 : AllG P w K mg base 5 T_5 := AllG.step A4 [2, 1] (fun_mk (st := topS 14) l5 c5 k5) sc_w_turned cp_w_turned (PySem.W.mg_of X G a5) (BndAll.cons [0, 1] (by decide +kernel) (fun s us ws h1 h2 => match us, ws, h1, h2 with | [_, _], [], _, _ => .of_eq rfl) (BndAll.nil)) hC hz hx
  have A6 : AllG P w K mg base 6 T_6 := AllG.step A5 [3, 2] (fun_mk (st := topS 11) l6 c6 k6) sc_w_any_manner cp_w_any_manner (PySem.W.mg_of X G a6) (BndAll.cons [0] (by decide +kernel) (fun s us ws h1 h2 => match us, ws, h1, h2 with | [_], [], _, _ => .of_eq rfl) (BndAll.nil)) hC hz hx
  have A7 : AllG P w K mg base 7 T_7 := AllG.step A6 [4, 3] (fun_mk (st := topS 13) l7 c7 k7) sc_w_fit_manner cp_w_fit_manner (PySem.W.mg_of X G a7) (BndAll.cons [0, 1] (by decide +kernel) (fun s us ws h1 h2 => match us, ws, h1, h2 with | [_, _], [], _, _ => .of_eq rfl) (BndAll.nil)) hC hz hx
  have A8 : AllG P w K mg base 8 T_8 := AllG.step A7 [5, 3, 2, 1, 0] (fun_mk (st := topS 15) l8 c8 k8) sc_w_protocol cp_w_protocol (PySem.W.mg_of X G a8) (BndAll.cons [0, 1] (by decide +kernel) (fun s us ws h1 h2 => match us, ws, h1, h2 with | [_, _], [], _, _ => .of_eq rfl) (BndAll.nil)) hC hz hx
  have A9 : AllG P w K mg base 9 T_9 := AllG.step A8 [] (fun_mk (st := topS 2) l9 c9 k9) sc_lacking_for_abort cp_lacking_for_abort (PySem.W.mg_of X G a9) (BndAll.cons [0, 1] (by decide +kernel) (fun s us ws h1 h2 => match us, ws, h1, h2 with | [_, _], [], _, _ => .of_eq rfl) (BndAll.nil)) hC hz hx
  have A10 : AllG P w K mg base 10 T_10 := AllG.step A9 [] (fun_mk (st := topS 1) l10 c10 k10) sc_lacking_for_commit cp_lacking_for_commit (PySem.W.mg_of X G a10) (BndAll.cons [0] (by decide +kernel) (fun s us ws h1 h2 => match us, ws, h1, h2 with | [_], [], _, _ => .of_eq rfl) (BndAll.nil)) hC hz hx
  have A11 : AllG P w K mg base 11 T_11 := AllG.step A10 [1, 0] (fun_mk (st := topS 3) l11 c11 k11) sc_lacks cp_lacks (PySem.W.mg_of X G a11) (BndAll.cons [0, 1] (by decide +kernel) (fun s us ws h1 h2 => match us, ws, h1, h2 with | [_, _], [], _, _ => .of_eq rfl) (BndAll.nil)) hC hz hx
  have A12 : AllG P w K mg base 12 T_12 := AllG.step A11 [0] (fun_mk (st := topS 4) l12 c12 k12) sc_fits cp_fits (PySem.W.mg_of X G a12) (BndAll.cons [0, 1] (by decide +kernel) (fun s us ws h1 h2 => match us, ws, h1, h2 with | [_, _], [], _, _ => .of_eq rfl) (BndAll.nil)) hC hz hx
  have A13 : AllG P w K mg base 13 T_13 := AllG.step A12 [] (fun_mk (st := topS 5) l13 c13 k13) sc_alone_fits cp_alone_fits (PySem.W.mg_of X G a13) (BndAll.cons [0, 1] (by decide +kernel) (fun s us ws h1 h2 => match us, ws, h1, h2 with | [_, _], [], _, _ => .of_eq rfl) (BndAll.nil)) hC hz hx
  have A14 : AllG P w K mg base 15 T_14 := AllG.stepG A13 [1, 0] (fun_mk (st := topS 6) l14 c14 k14) sc_is_safe cp_is_safe (PySem.W.mg_of X G a14) (BndAll.cons [0] (by decide +kernel) (fun s us ws h1 h2 => match us, ws, h1, h2 with | [_], [], _, _ => .of_eq rfl) (BndAll.cons [0] (by decide +kernel) (fun s us ws h1 h2 => match us, ws, h1, h2 with | [], [_], _, _ => .of_eq rfl) (BndAll.nil))) hC hz hx a14 (tabIn_def a14 l14 te_is_safe tq_is_safe tz_is_safe) (TB _ (List.mem_filterMap.mpr ⟨"is_safe", by decide, tabIn_def a14 l14 te_is_safe tq_is_safe tz_is_safe⟩))
  have A15 : AllG P w K mg base 16 T_15 := AllG.step A14 [] (fun_mk (st := topS 16) l15 c15 k15) sc_w_lacks cp_w_lacks (PySem.W.mg_of X G a15) (BndAll.cons [0, 1] (by decide +kernel) (fun s us ws h1 h2 => match us, ws, h1, h2 with | [_, _], [], _, _ => .of_eq rfl) (BndAll.nil)) hC hz hx
  have A16 : AllG P w K mg base 17 T_16 := AllG.step A15 [0] (fun_mk (st := topS 17) l16 c16 k16) sc_w_is_safe cp_w_is_safe (PySem.W.mg_of X G a16) (BndAll.cons [0] (by decide +kernel) (fun s us ws h1 h2 => match us, ws, h1, h2 with | [_], [], _, _ => .of_eq rfl) (BndAll.nil)) hC hz hx
  have A17 : AllG P w K mg base 18 T_17 := AllG.step A16 [14, 4, 2, 1, 0] (fun_mk (st := topS 19) l17 c17 k17) sc_w_is_more_right cp_w_is_more_right (PySem.W.mg_of X G a17) (BndAll.cons [0, 1, 2] (by decide +kernel) (fun s us ws h1 h2 => match us, ws, h1, h2 with | [_, _, _], [], _, _ => .of_eq rfl) (BndAll.nil)) hC hz hx
  have A18 : AllG P w K mg base 19 T_18 := AllG.step A17 [3, 2, 1] (fun_mk (st := topS 18) l18 c18 k18) sc_w_are_alike_right cp_w_are_alike_right (PySem.W.mg_of X G a18) (BndAll.cons [0, 1, 2] (by decide +kernel) (fun s us ws h1 h2 => match us, ws, h1, h2 with | [_, _, _], [], _, _ => .of_eq rfl) (BndAll.nil)) hC hz hx
  have A19 : AllG P w K mg base 20 T_19 := AllG.step A18 [17, 16, 12, 11, 10, 1, 0] (fun_mk (st := topS 20) l19 c19 k19) sc_law cp_law (PySem.W.mg_of X G a19) (BndAll.cons [0] (by decide +kernel) (fun s us ws h1 h2 => match us, ws, h1, h2 with | [_], [], _, _ => .of_eq rfl) (BndAll.nil)) hC hz hx
  exact A19
end K30

/-! DxAw: walking over all, any; over x[i] = v. -/
set_option linter.all false
set_option maxRecDepth 100000
set_option Elab.async false
-- TRY
namespace DX
open PySem PySem.Spec PyProof.Rows L2
local macro_rules | `(tactic| wp_walk) => `(tactic| try simp only [w_C, w_Var, vGet_some, w_Lnil, w_Lcons, w_Op, w_Call, w_Tup, w_Lst, w_LstT, w_Fn, w_If, w_Tst, tGet_bl, w_Tru, uGet_some, w_tAnd, w_tOr, w_tNot, w_And, w_Or, w_Not, w_Slice, w_pN, w_pS, iGet_int, w_Neg, w_Back, w_EdF, w_EdT, w_Seq, w_sNx, w_Expr, w_Ret, w_sIf, w_Asg, g_name, gGet_some, w_Par, w_Par3, retP_nx, retP_rt, retP_ex, wS_nx, wS_bk, wS_ct, wS_rt, wR_ok, wR_bind, List.getElem?_cons_zero, List.getElem?_cons_succ, List.set_cons_zero, List.set_cons_succ, pick, List.filterMap_cons, List.filterMap_nil, List.cons_append, List.nil_append, List.append_nil, if_true, if_false, Bool.false_eq_true, Bool.not_true, Bool.not_false, List.length_cons, List.length_nil, List.replicate_succ, List.replicate_zero, Nat.reduceSub, List.map_cons, List.map_nil, fits_small, add_lst, add_tup, DX.add_int, DX.sub_int, eq_ii, ne_ii, newC_f, tru_bl, tru_int, tupleD_lst, tupleD_tup, listD_lst, listD_tup, lenD_lst, lenD_tup, back_tup, back_lst, slice_tup, slice_lst, cmp_lt, cmp_le, cmp_gt, cmp_ge, int_int, int_bl, cmp_isnon, cmp_isnotnon, Nat.reduceAdd, Nat.reduceLeDiff, decide_eq_true_eq, asg_name, mLst_nil, cutL_to, cutL_from, cst1, asg_two, tg_two, tg_three, gm_tg, wipeE, notT_eq, Bool.true_eq_false, le_lim])
local macro_rules | `(tactic| wp_walk using $ls,*) => `(tactic| try simp only [w_C, w_Var, vGet_some, w_Lnil, w_Lcons, w_Op, w_Call, w_Tup, w_Lst, w_LstT, w_Fn, w_If, w_Tst, tGet_bl, w_Tru, uGet_some, w_tAnd, w_tOr, w_tNot, w_And, w_Or, w_Not, w_Slice, w_pN, w_pS, iGet_int, w_Neg, w_Back, w_EdF, w_EdT, w_Seq, w_sNx, w_Expr, w_Ret, w_sIf, w_Asg, g_name, gGet_some, w_Par, w_Par3, retP_nx, retP_rt, retP_ex, wS_nx, wS_bk, wS_ct, wS_rt, wR_ok, wR_bind, List.getElem?_cons_zero, List.getElem?_cons_succ, List.set_cons_zero, List.set_cons_succ, pick, List.filterMap_cons, List.filterMap_nil, List.cons_append, List.nil_append, List.append_nil, if_true, if_false, Bool.false_eq_true, Bool.not_true, Bool.not_false, List.length_cons, List.length_nil, List.replicate_succ, List.replicate_zero, Nat.reduceSub, List.map_cons, List.map_nil, fits_small, add_lst, add_tup, DX.add_int, DX.sub_int, eq_ii, ne_ii, newC_f, tru_bl, tru_int, tupleD_lst, tupleD_tup, listD_lst, listD_tup, lenD_lst, lenD_tup, back_tup, back_lst, slice_tup, slice_lst, cmp_lt, cmp_le, cmp_gt, cmp_ge, int_int, int_bl, cmp_isnon, cmp_isnotnon, Nat.reduceAdd, Nat.reduceLeDiff, decide_eq_true_eq, asg_name, mLst_nil, cutL_to, cutL_from, cst1, asg_two, tg_two, tg_three, gm_tg, wipeE, notT_eq, Bool.true_eq_false, le_lim, $[$ls:term],*])
/-- all (b = true), any (b = false) over a row -/
def aaW (b : Bool) (g : GM) (f : EM) (e : Sl) : List D → Sto → R D
  | [], st => .ok (.bl b) st
  | x :: xs, st => match g x e with
    | some e' => match f e' st with
      | .ok (.bl k) st1 => if k = b then aaW b g f e xs st1 else .ok (.bl (!b)) st1
      | _ => .no
    | none => .no
theorem aaL_walk {b : Bool} {it : Itr} {xs : List D} (hl : ∀ st, it.len st = some xs.length) (ha : ∀ st i, it.at st i = xs[i]?) (g : GM) (f : EM) (e : Sl) : ∀ (r : Nat) (st : Sto), r ≤ xs.length → aaL b it xs.length g f r e st = aaW b g f e (xs.drop (xs.length - r)) st
  | 0, st, _ => by
    unfold aaL
    rw [if_pos (hl st), Nat.sub_zero, List.drop_length]
    rfl
  | r + 1, st, h => by
    have hi : xs.length - (r + 1) < xs.length := by omega
    have e1 : xs.length - (r + 1) + 1 = xs.length - r := by omega
    unfold aaL
    rw [if_pos (hl st), ha st, List.getElem?_eq_getElem hi, List.drop_eq_getElem_cons hi, e1]
    unfold aaW
    dsimp only
    cases g xs[xs.length - (r + 1)] e with
    | none => rfl
    | some e' =>
      dsimp only
      cases f e' st with
      | ok d st1 =>
        cases d with
        | bl k =>
          dsimp only
          by_cases hk : k = b
          · rw [if_pos hk, if_pos hk]
            exact aaL_walk hl ha g f e r st1 (by omega)
          · rw [if_neg hk, if_neg hk]
        | _ => rfl
      | _ => rfl
section
variable {e : Sl} {st : Sto} {Q : D → Sto → Prop} {X : XP} {P : Po}
theorem w_AA {b : Bool} {im : IM} {vs : List Nat} {g : GM} {f : EM} (h : wI im e st (fun xs st1 => wR (aaW b g f (wipeE e vs) xs st1) Q X) X) : wR (mAA b im vs g f e st) Q X := by
  unfold wI at h
  cases q : im e st with
  | ok it st1 =>
    rw [q] at h
    obtain ⟨xs, h1, h2, h3⟩ := h.h
    unfold mAA
    rw [q, bind_ok, h1 st1]
    dsimp only
    rw [aaL_walk h1 h2 _ _ _ _ _ (Nat.le_refl _), Nat.sub_self, List.drop_zero]
    exact h3
  | exc c fs st1 => rw [q] at h; unfold mAA; rw [q]; exact ⟨h.h⟩
  | no => rw [q] at h; exact h.h.elim
/-- what all, any tell -/
def aaB (b : Bool) {α : Type} (p : α → Bool) (ys : List α) : Bool := if b = true then ys.all p else ys.any p
theorem aaB_all {α : Type} (p : α → Bool) (ys : List α) : aaB true p ys = ys.all p := rfl
theorem aaB_any {α : Type} (p : α → Bool) (ys : List α) : aaB false p ys = ys.any p := rfl
theorem aaB_cons (b : Bool) {α : Type} (p : α → Bool) (y : α) (ys : List α) : aaB b p (y :: ys) = if p y = b then aaB b p ys else !b := by
  cases b <;> cases h : p y <;> simp [aaB, h]
theorem aaW_w {α : Type} {b : Bool} {g : GM} {f : EM} (em : α → D) (p : α → Bool) (I : Sto → Prop) : ∀ (ys : List α) (st : Sto), I st → (∀ y ∈ ys, ∀ st, I st → gGet (g (em y) e) (fun e' st1 => wR (f e' st1) (fun d st2 => d = .bl (p y) ∧ I st2) nX) st) →
    (∀ st', I st' → Q (.bl (aaB b p ys)) st') → wR (aaW b g f e (ys.map em) st) Q X
  | [], st, h, _, k => by
    have z := k st h
    have e0 : aaB b p [] = b := by cases b <;> rfl
    rw [e0] at z
    exact ⟨z⟩
  | y :: ys, st, h, step, k => by
    have s := step y List.mem_cons_self st h
    rw [List.map_cons]
    unfold aaW
    cases q : g (em y) e with
    | none => rw [q] at s; exact s.elim
    | some e' =>
      rw [q] at s
      have s : wR (f e' st) _ nX := s
      obtain ⟨d, st2, q2, rfl, i2⟩ := wR_get s
      dsimp only
      rw [q2]
      dsimp only
      by_cases hk : p y = b
      · rw [if_pos hk]
        refine aaW_w em p I ys st2 i2 (fun z hz => step z (List.mem_cons_of_mem _ hz)) fun st' i' => ?_
        have z := k st' i'
        rw [aaB_cons, if_pos hk] at z
        exact z
      · rw [if_neg hk]
        have z := k st2 i2
        rw [aaB_cons, if_neg hk] at z
        exact ⟨z⟩
def lpGet (o : Option (Nat × List D)) (k y : D) (N : Sto → Prop) (st : Sto) : Prop := match o, k with
  | some (n, xs), .int i => match ixN xs.length i with
    | some j => N (st.set n (.lst (xs.set j y)))
    | none => False
  | _, _ => False
theorem w_LPut (a b v : EM) : wS (sLPutM a b v e st) P = wR (v e st) (fun y st1 => wR (a e st1) (fun x st2 => wR (b e st2) (fun k st3 => lpGet (lstOf st3 x) k y (fun st' => P.nx e st') st3) (fun c fs st => P.ex c fs e st)) (fun c fs st => P.ex c fs e st)) (fun c fs st => P.ex c fs e st) := by
  show wS ((v e st).s e _) P = _
  rw [wS_s]
  congr 1
  funext y st1
  rw [wS_s]
  congr 1
  funext x st2
  rw [wS_s]
  congr 1
  funext k st3
  cases lstOf st3 x with
  | none => simp only [wS_iff]; rfl
  | some nk =>
    obtain ⟨n, xs⟩ := nk
    cases k with
    | int i =>
      show wS (match ixN xs.length i with
        | some j => RS.nx e (st3.set n (.lst (xs.set j y)))
        | none => .no) P = lpGet (some (n, xs)) (.int i) y _ st3
      unfold lpGet
      dsimp only
      cases ixN xs.length i with
      | none => simp only [wS_iff]; rfl
      | some j => exact wS_nx
    | _ => simp only [wS_iff]; rfl
theorem lpGet_ev {n i : Nat} {xs : List D} {y : D} {N : Sto → Prop} (h : st[n]? = some (.lst xs)) (hi : i < xs.length) : lpGet (lstOf st (.loc n)) (.int (i : Nat)) y N st = N (st.set n (.lst (xs.set i y))) := by
  rw [lstOf_loc h]
  unfold lpGet
  have e1 : ixN xs.length (i : Nat) = some i := by
    unfold ixN
    rw [if_pos (by omega)]
    simp
    try omega
  dsimp only
  rw [e1]
/-- each value is looked at; the store may change so that I stays -/
theorem mapW_I {α : Type} {g : GM} {c : TM} {f : EM} {Q : List D → Sto → Prop} (em : α → D) (p : α → Bool) (F : α → D) (I : Sto → Prop) : ∀ (ys : List α) (acc : List D) (st : Sto), acc.length + ys.length ≤ sizeLine → I st →
    (∀ y ∈ ys, ∀ st, I st → gGet (g (em y) e) (fun e' st1 => wR (c e' st1) (fun k st2 => k = p y ∧ I st2 ∧ (p y = true → wR (f e' st2) (fun d st3 => d = F y ∧ I st3) nX)) nX) st) → (∀ st', I st' → Q (acc ++ (ys.filter p).map F) st') → wR (mapW g c f e (ys.map em) acc st) Q X
  | [], acc, st, _, h, _, k => by
    have z := k st h
    rw [List.filter_nil, List.map_nil, List.append_nil] at z
    exact ⟨z⟩
  | y :: ys, acc, st, hl, h, step, k => by
    rw [List.length_cons] at hl
    have s := step y List.mem_cons_self st h
    have more := fun z hz => step z (List.mem_cons_of_mem y hz)
    rw [List.map_cons]
    unfold mapW
    cases q : g (em y) e with
    | none => rw [q] at s; exact s.elim
    | some e' =>
      rw [q] at s
      have s : wR (c e' st) _ nX := s
      obtain ⟨b, st2, q2, rfl, i2, s2⟩ := wR_get s
      dsimp only
      rw [q2]
      cases hp : p y with
      | true =>
        obtain ⟨d, st3, q3, rfl, i3⟩ := wR_get (s2 hp)
        dsimp only
        rw [q3]
        dsimp only
        rw [if_pos (by omega)]
        refine mapW_I em p F I ys _ st3 (by rw [List.length_append, List.length_singleton]; omega) i3 more fun st' i' => ?_
        have z := k st' i'
        rw [List.filter_cons_of_pos hp, List.map_cons] at z
        rw [List.append_assoc]
        exact z
      | false =>
        dsimp only
        refine mapW_I em p F I ys acc st2 (by omega) i2 more fun st' i' => ?_
        have z := k st' i'
        rw [List.filter_cons_of_neg (by rw [hp]; simp)] at z
        exact z
theorem ne_of_eq {a b : D} {k : Bool} (h : cmpD .Eq a b st = .ok (.bl k) st) : cmpD .NotEq a b st = .ok (.bl (!k)) st := by
  have h' : R.of ((eqB a b st).map D.bl) st = .ok (.bl k) st := h
  show R.of (((eqB a b st).map (!·)).map D.bl) st = _
  cases q : eqB a b st with
  | none => rw [q] at h'; cases h'
  | some j => rw [q] at h'; cases h'; rfl
theorem eq_lnil {xs : List D} {ps : List PyData} (h : pds xs = some ps) : cmpD .Eq (.lst xs) (.lst []) st = .ok (.bl xs.isEmpty) st := by
  have e1 : ps.isEmpty = xs.isEmpty := by
    cases xs with
    | nil => cases h; rfl
    | cons x xs =>
      cases ps with
      | nil => unfold pds at h; split at h <;> cases h
      | cons p ps => rfl
  have e : eqB (.lst xs) (.lst []) st = some xs.isEmpty := by
    unfold eqB
    rw [view_data (p := .list ps) (by unfold pd; rw [h]), show view st (.lst []) = some (.list []) from rfl]
    dsimp only
    split
    · rw [← e1]
      cases ps with
      | nil => rfl
      | cons p ps => rfl
    · unfold emQ
      rw [← e1]
  show R.of ((eqB _ _ st).map D.bl) st = _
  rw [e]; rfl
theorem eq_lnil_sh {n d : Nat} {xs : List D} (h : ∀ x ∈ xs, Sh n d x) : cmpD .Eq (.lst xs) (.lst []) st = .ok (.bl xs.isEmpty) st := by
  obtain ⟨ps, e, _⟩ := sh_items xs h
  exact eq_lnil e
end
end DX

/-! DxPr: protocols that are drawn (the deck family); safe ones. -/
set_option linter.all false
set_option maxRecDepth 100000
set_option Elab.async false
-- TRY
namespace DX
open PySem PySem.Spec PyProof.Rows L2
local macro_rules | `(tactic| wp_walk) => `(tactic| try simp only [w_C, w_Var, vGet_some, w_Lnil, w_Lcons, w_Op, w_Call, w_Tup, w_Lst, w_LstT, w_Fn, w_If, w_Tst, tGet_bl, w_Tru, uGet_some, w_tAnd, w_tOr, w_tNot, w_And, w_Or, w_Not, w_Slice, w_pN, w_pS, iGet_int, w_Neg, w_Back, w_EdF, w_EdT, w_Seq, w_sNx, w_Expr, w_Ret, w_sIf, w_Asg, g_name, gGet_some, w_Par, w_Par3, retP_nx, retP_rt, retP_ex, wS_nx, wS_bk, wS_ct, wS_rt, wR_ok, wR_bind, List.getElem?_cons_zero, List.getElem?_cons_succ, List.set_cons_zero, List.set_cons_succ, pick, List.filterMap_cons, List.filterMap_nil, List.cons_append, List.nil_append, List.append_nil, if_true, if_false, Bool.false_eq_true, Bool.not_true, Bool.not_false, List.length_cons, List.length_nil, List.replicate_succ, List.replicate_zero, Nat.reduceSub, List.map_cons, List.map_nil, fits_small, add_lst, add_tup, DX.add_int, DX.sub_int, eq_ii, ne_ii, newC_f, tru_bl, tru_int, tupleD_lst, tupleD_tup, listD_lst, listD_tup, lenD_lst, lenD_tup, back_tup, back_lst, slice_tup, slice_lst, cmp_lt, cmp_le, cmp_gt, cmp_ge, int_int, int_bl, cmp_isnon, cmp_isnotnon, Nat.reduceAdd, Nat.reduceLeDiff, decide_eq_true_eq, asg_name, mLst_nil, cutL_to, cutL_from, cst1, asg_two, tg_two, tg_three, gm_tg, wipeE, notT_eq, Bool.true_eq_false, le_lim])
local macro_rules | `(tactic| wp_walk using $ls,*) => `(tactic| try simp only [w_C, w_Var, vGet_some, w_Lnil, w_Lcons, w_Op, w_Call, w_Tup, w_Lst, w_LstT, w_Fn, w_If, w_Tst, tGet_bl, w_Tru, uGet_some, w_tAnd, w_tOr, w_tNot, w_And, w_Or, w_Not, w_Slice, w_pN, w_pS, iGet_int, w_Neg, w_Back, w_EdF, w_EdT, w_Seq, w_sNx, w_Expr, w_Ret, w_sIf, w_Asg, g_name, gGet_some, w_Par, w_Par3, retP_nx, retP_rt, retP_ex, wS_nx, wS_bk, wS_ct, wS_rt, wR_ok, wR_bind, List.getElem?_cons_zero, List.getElem?_cons_succ, List.set_cons_zero, List.set_cons_succ, pick, List.filterMap_cons, List.filterMap_nil, List.cons_append, List.nil_append, List.append_nil, if_true, if_false, Bool.false_eq_true, Bool.not_true, Bool.not_false, List.length_cons, List.length_nil, List.replicate_succ, List.replicate_zero, Nat.reduceSub, List.map_cons, List.map_nil, fits_small, add_lst, add_tup, DX.add_int, DX.sub_int, eq_ii, ne_ii, newC_f, tru_bl, tru_int, tupleD_lst, tupleD_tup, listD_lst, listD_tup, lenD_lst, lenD_tup, back_tup, back_lst, slice_tup, slice_lst, cmp_lt, cmp_le, cmp_gt, cmp_ge, int_int, int_bl, cmp_isnon, cmp_isnotnon, Nat.reduceAdd, Nat.reduceLeDiff, decide_eq_true_eq, asg_name, mLst_nil, cutL_to, cutL_from, cst1, asg_two, tg_two, tg_three, gm_tg, wipeE, notT_eq, Bool.true_eq_false, le_lim, $[$ls:term],*])
def body_d_head : SM :=
  sSeq (sAsg (mLst false [mC (.str "none"), mC (.str "lazy"), mC (.str "forced")]) (gmName 1))
  (sSeq (sAsg (mIf (mTst (mOp (cmpD .Gt) (mFn F_ddraw [0, 1] [mVar 0, mC (.int 6)] []) (mC (.int 0)))) (mC (.str "forced")) (mFn (F_pickG F_ddraw) [0, 1] [mVar 0, mVar 1] [])) (gmName 2))
  (sRet (mTup [mFn (F_pickG F_ddraw) [0, 1] [mVar 0, mOp (addD false) (mVar 1) (mLst false [mC (.str "forced")])] [], mVar 2, mFn (F_pickG F_ddraw) [0, 1] [mVar 0, mVar 1] []])))
def F_d_head : FI := ⟨["deck"], runBody 3 body_d_head⟩
theorem cf_d_head {a0 : D} {st : Sto} : callF F_d_head [a0] st = F_d_head.run [a0] st := callF_ok rfl
theorem ub_d_head {a0 : D} {st : Sto} {Q : D → Sto → Prop} {X : XP} : wR (F_d_head.run [a0] st) Q X = wS (body_d_head [some a0, none, none] st) (retP Q X) := w_body 3 body_d_head [a0]
def body_d_turned : SM :=
  sSeq (sAsg (mVar 1) (Tg.tup (.cons (.name 2) (.cons (.name 3) (.nil)))).m)
  (sSeq (sPar 4 5 (mFn F_ddraw [0, 1] [mVar 0, mCall lenD [mVar 3]] []) (mFn F_ddraw [0, 1] [mVar 0, mC (.int 9)] []))
  (sSeq (sPar 6 7 (mLst false [mC (.str "none"), mC (.str "lazy"), mC (.str "forced")]) (mCall (listD true) [mOp ixD (mVar 3) (mVar 4)]))
  (sSeq (sIf (mTst (mOp (cmpD .Lt) (mVar 5) (mC (.int 3)))) (sRet (mTup [mOp (addD false) (mOp (addD false) (mSlice false (mVar 2) pmNone (pmSome (mVar 5))) (mTup [mFn (F_pickG F_ddraw) [0, 1] [mVar 0, mVar 6] []])) (mSlice false (mVar 2) (pmSome (mOp (addD false) (mVar 5) (mC (.int 1)))) pmNone), mVar 3])) (sNx))
  (sSeq (sIf (mTst (mOp (cmpD .Lt) (mVar 5) (mC (.int 6)))) (sLPutM (mVar 7) (mOp (arD .Sub) (mVar 5) (mC (.int 3))) (mFn (F_pickG F_ddraw) [0, 1] [mVar 0, mVar 6] [])) (sIf (mTst (mOp (cmpD .Eq) (mVar 5) (mC (.int 6)))) (sLPutM (mVar 7) (mC (.int 3)) (mFn (F_pickG F_ddraw) [0, 1] [mVar 0, mLst false [mTup [], mTup [mC (.str "abort")], mTup [mC (.str "commit")], mTup [mC (.str "abort"), mC (.str "commit")]]] [])) (sIf (mTst (mOp (cmpD .Eq) (mVar 5) (mC (.int 7)))) (sLPutM (mVar 7) (mC (.int 4)) (mIf (mTst (mOp (cmpD .Eq) (mOp ixD (mVar 7) (mC (.int 4))) (mC (.str "commit")))) (mC (.str "abort")) (mC (.str "commit")))) (sLPutM (mVar 7) (mC (.int 5)) (mNot (mOp ixD (mVar 7) (mC (.int 5))))))))
  (sRet (mTup [mVar 2, mOp (addD false) (mOp (addD false) (mSlice false (mVar 3) pmNone (pmSome (mVar 4))) (mTup [mCall tupleD [mVar 7]])) (mSlice false (mVar 3) (pmSome (mOp (addD false) (mVar 4) (mC (.int 1)))) pmNone)]))))))
def F_d_turned : FI := ⟨["deck", "protocol"], runBody 8 body_d_turned⟩
theorem cf_d_turned {a0 a1 : D} {st : Sto} : callF F_d_turned [a0, a1] st = F_d_turned.run [a0, a1] st := callF_ok rfl
theorem ub_d_turned {a0 a1 : D} {st : Sto} {Q : D → Sto → Prop} {X : XP} : wR (F_d_turned.run [a0, a1] st) Q X = wS (body_d_turned [some a0, some a1, none, none, none, none, none, none] st) (retP Q X) := w_body 8 body_d_turned [a0, a1]
def body_d_protocol : SM :=
  sSeq (sAsg (mFn F_d_head [0] [mVar 0] []) (gmName 2))
  (sSeq (sAsg (mLc false (imR1 (mVar 1)) [5] (Tg.name 5).m (fun _ st => .ok true st) (mIf (mTst (mOp (cmpD .Eq) (mFn F_ddraw [0, 1] [mVar 0, mC (.int 9)] []) (mC (.int 0)))) (mFn F_anyM [0] [mVar 0] []) (mFn F_fitM [0, 1] [mVar 0, mVar 2] []))) (gmName 3))
  (sSeq (sAsg (mTup [mVar 2, mCall tupleD [mVar 3]]) (gmName 4))
  (sRet (mIf (mTst (mOp (cmpD .Eq) (mFn F_ddraw [0, 1] [mVar 0, mC (.int 2)] []) (mC (.int 0)))) (mVar 4) (mFn F_d_turned [0, 1] [mVar 0, mVar 4] [])))))
def F_d_protocol : FI := ⟨["deck", "many"], runBody 6 body_d_protocol⟩
theorem cf_d_protocol {a0 a1 : D} {st : Sto} : callF F_d_protocol [a0, a1] st = F_d_protocol.run [a0, a1] st := callF_ok rfl
theorem ub_d_protocol {a0 a1 : D} {st : Sto} {Q : D → Sto → Prop} {X : XP} : wR (F_d_protocol.run [a0, a1] st) Q X = wS (body_d_protocol [some a0, some a1, none, none, none, none] st) (retP Q X) := w_body 6 body_d_protocol [a0, a1]
def body_d_is_safe : SM :=
  sSeq (sAsg (mVar 0) (Tg.tup (.cons (.name 1) (.cons (.name 2) (.nil)))).m)
  (sSeq (sIf (mTst (mOp (cmpD .Eq) (mLc false (imSeq (mVar 2)) [4] (Tg.name 4).m (mTst (mOp (cmpD .NotEq) (mFn F_lawLacks [0, 1] [mVar 1, mVar 4] []) (mTup []))) (mVar 4)) (mLst false []))) (sRet (mC (.bl true))) (sNx))
  (sSeq (sIf (tmOr (mTst (mOp (cmpD .Gt) (mCall lenD [mVar 2]) (mC (.int 1)))) (tmOr (mTst (mOp (cmpD .NotEq) (mOp ixD (mOp ixD (mVar 2) (mC (.int 0))) (mC (.int 4))) (mC (.str "commit")))) (mTst (mOp (cmpD .NotIn) (mC (.str "abort")) (mOp ixD (mOp ixD (mVar 2) (mC (.int 0))) (mC (.int 3))))))) (sRet (mC (.bl false))) (sNx))
  (sSeq (sAsg (mOp (cmpD .Eq) (mLst false [mOp ixD (mOp ixD (mVar 2) (mC (.int 0))) (mC (.int 0)), mOp ixD (mOp ixD (mVar 2) (mC (.int 0))) (mC (.int 2)), mOp ixD (mVar 1) (mC (.int 2))]) (mLMul false [mC (.str "forced")] (mC (.int 3)))) (gmName 3))
  (sRet (mAnd (mVar 3) (mOr (mOp (cmpD .Eq) (mOp ixD (mVar 1) (mC (.int 0))) (mC (.str "none"))) (mOp (cmpD .Eq) (mOp ixD (mVar 1) (mC (.int 1))) (mC (.str "forced")))))))))
def F_d_is_safe : FI := ⟨["protocol"], runBody 5 body_d_is_safe⟩
theorem cf_d_is_safe {a0 : D} {st : Sto} : callF F_d_is_safe [a0] st = F_d_is_safe.run [a0] st := callF_ok rfl
theorem ub_d_is_safe {a0 : D} {st : Sto} {Q : D → Sto → Prop} {X : XP} : wR (F_d_is_safe.run [a0] st) Q X = wS (body_d_is_safe [some a0, none, none, none, none] st) (retP Q X) := w_body 5 body_d_is_safe [a0]
def body_z_alone_fits : SM :=
  sSeq (sAsg (mVar 1) (Tg.tup (.cons (.name 2) (.cons (.name 3) (.cons (.name 4) (.cons (.name 5) (.cons (.name 6) (.cons (.name 7) (.nil)))))))).m)
  (sSeq (sIf (tmOr (mTst (mOp (cmpD .NotEq) (mVar 6) (mC (.str "commit")))) (mTst (mOp (cmpD .NotIn) (mC (.str "abort")) (mVar 5)))) (sRet (mC (.bl false))) (sNx))
  (sSeq (sIf (tmOr (mTst (mOp (cmpD .NotEq) (mVar 2) (mC (.str "forced")))) (tmOr (mTst (mOp (cmpD .NotEq) (mVar 4) (mC (.str "forced")))) (mTst (mOp (cmpD .NotEq) (mOp ixD (mVar 0) (mC (.int 2))) (mC (.str "forced")))))) (sRet (mC (.bl false))) (sNx))
  (sRet (mOr (mOp (cmpD .Eq) (mOp ixD (mVar 0) (mC (.int 0))) (mC (.str "none"))) (mOp (cmpD .Eq) (mOp ixD (mVar 0) (mC (.int 1))) (mC (.str "forced")))))))
def F_z_alone_fits : FI := ⟨["head", "manner"], runBody 8 body_z_alone_fits⟩
theorem cf_z_alone_fits {a0 a1 : D} {st : Sto} : callF F_z_alone_fits [a0, a1] st = F_z_alone_fits.run [a0, a1] st := callF_ok rfl
theorem ub_z_alone_fits {a0 a1 : D} {st : Sto} {Q : D → Sto → Prop} {X : XP} : wR (F_z_alone_fits.run [a0, a1] st) Q X = wS (body_z_alone_fits [some a0, some a1, none, none, none, none, none, none] st) (retP Q X) := w_body 8 body_z_alone_fits [a0, a1]
def body_z_is_safe : SM :=
  sSeq (sAsg (mVar 0) (Tg.tup (.cons (.name 1) (.cons (.name 2) (.nil)))).m)
  (sSeq (sIf (tmAnd (mTst (mOp (cmpD .Eq) (mCall lenD [mVar 2]) (mC (.int 1)))) (mTru (mFn F_z_alone_fits [0, 1] [mVar 1, mOp ixD (mVar 2) (mC (.int 0))] []))) (sRet (mC (.bl true))) (sNx))
  (sRet (mAA true (imSeq (mVar 2)) [3] (Tg.name 3).m (mFn F_fits [0, 1] [mVar 1, mVar 3] []))))
def F_z_is_safe : FI := ⟨["protocol"], runBody 4 body_z_is_safe⟩
theorem cf_z_is_safe {a0 : D} {st : Sto} : callF F_z_is_safe [a0] st = F_z_is_safe.run [a0] st := callF_ok rfl
theorem ub_z_is_safe {a0 : D} {st : Sto} {Q : D → Sto → Prop} {X : XP} : wR (F_z_is_safe.run [a0] st) Q X = wS (body_z_is_safe [some a0, none, none, none] st) (retP Q X) := w_body 4 body_z_is_safe [a0]

section
variable {k0 : Nat} {st : Sto} {Q : D → Sto → Prop} {X : XP}
theorem dhead_w (hB : Dk k0 st) (k : ∀ (h : Hd) st', DO k0 (Dk k0) st st' → Q (eH h) st') : wR (F_d_head.run [.loc 0] st) Q X := by
  rw [ub_d_head]
  unfold body_d_head
  wp_walk using cf_ddraw, cfp
  refine (ddraw_ok k0).w hB (by decide) fun r st1 b1 _ _ => ?_
  wp_walk
  have last : ∀ (c : S3) (st1 : Sto), DO k0 (Dk k0) st st1 → wR (runBody 2 (B_pickG F_ddraw) [D.loc 0, D.lst [D.str "none", D.str "lazy", D.str "forced", D.str "forced"]] st1) (fun d st1 => wR (runBody 2 (B_pickG F_ddraw) [D.loc 0, D.lst [D.str "none", D.str "lazy", D.str "forced"]] st1) (fun d_1 st1 => Q (D.tup [d, eS c, d_1]) st1) fun c fs st => X c fs st) fun c fs st => X c fs st := fun c st1 b1 => by
    refine (ddraw_ok k0).pick_m [S3.n, .l, .f, .f] eS rfl rfl b1.deck (by simp) (by simp) fun a st2 _ b2 => ?_
    refine (ddraw_ok k0).pick_m [S3.n, .l, .f] eS rfl rfl b2.deck (by simp) (by simp) fun d st3 _ b3 => ?_
    exact k ⟨a, c, d⟩ st3 ((b1.trans b2).trans b3)
  split
  · exact last .f st1 b1
  · refine (ddraw_ok k0).pick_m [S3.n, .l, .f] eS rfl rfl b1.deck (by simp) (by simp) fun c st2 _ b2 => ?_
    exact last c st2 (b1.trans b2)
theorem listD_tupT (xs : List D) : listD true [.tup xs] st = .ok (.loc st.length) (st ++ [.lst xs]) := rfl
theorem DO.pushed {I : Sto → Prop} {F : FI} {k0 : Nat} (dr : Drw F k0 I) {a b : Sto} (h : DO k0 I a b) (L : List O) : DO k0 I a (b ++ L) := ⟨dr.push h.deck L, h.frm.trans (.push L)⟩
theorem ix_locE {n i : Nat} {xs : List D} {x : D} (h : st[n]? = some (.lst xs)) (e : xs[i]? = some x) : ixD (.loc n) (.int (i : Nat)) st = .ok x st := by
  have hi : i < xs.length := (List.getElem?_eq_some_iff.mp e).1
  have e2 : L2.atI xs (i : Nat) = some x := by
    unfold L2.atI L2.ixN
    rw [if_pos (by omega), if_pos (by omega)]
    simpa using e
  show (match seqItems st (.loc n) with
    | some xs => R.of (L2.atI xs (i : Nat)) st
    | none => .no) = _
  rw [show seqItems st (.loc n) = some xs from items_loc h]
  dsimp only
  rw [e2]
  rfl
theorem Frm.put {k l : Nat} {a b : Sto} {o : O} (h : Frm k a b) (hl : a.length ≤ l) : Frm k a (b.set l o) :=
  ⟨by rw [List.length_set]; exact h.len, fun i h1 h2 => by rw [List.getElem?_set_ne (by omega)]; exact h.keep i h1 h2⟩
def eMl (m : Mn) : List D := [eS m.p, eS m.c, eS m.a, eT m.t, eE m.e, .bl m.s]
theorem eM_l (m : Mn) : eM m = .tup (eMl m) := rfl
theorem get_mn {ms : List Mn} {i : Nat} (h : i < ms.length) : (ms.map eM)[i]? = some (eM ms[i]) := by
  rw [List.getElem?_map, List.getElem?_eq_getElem h]; rfl
theorem ms_put (ms : List Mn) (i : Nat) (m : Mn) : (ms.map eM).take i ++ [eM m] ++ (ms.map eM).drop (i + 1) = (ms.take i ++ [m] ++ ms.drop (i + 1)).map eM := by
  simp [List.map_take, List.map_drop]
theorem dturned_w {p : Pr} (hn : p.ms ≠ []) (hl : p.ms.length ≤ 50) (hB : Dk k0 st) (k : ∀ (p' : Pr) st', p'.ms.length = p.ms.length → DO k0 (Dk k0) st st' → Q (eP p') st') : wR (F_d_turned.run [.loc 0, eP p] st) Q X := by
  rw [ub_d_turned]
  unfold body_d_turned
  have hpos : 0 < p.ms.length := List.length_pos_iff.mpr hn
  have len : ∀ st, lenD [.tup (p.ms.map eM)] st = .ok (.int (p.ms.length : Nat)) st := fun st => by rw [lenD_tup, List.length_map]
  refine w_cut (fun e st' => e = [some (.loc 0), some (eP p), some (eH p.h), some (.tup (p.ms.map eM)), none, none, none, none] ∧ st' = st) ?_ ?_
  · unfold eP
    wp_walk
    exact ⟨trivial, trivial⟩
  rintro _ st9 ⟨rfl, h9⟩
  rw [h9]
  refine w_cut (fun e st' => ∃ i spot : Nat, i < p.ms.length ∧ spot < 9 ∧ e = [some (.loc 0), some (eP p), some (eH p.h), some (.tup (p.ms.map eM)), some (.int i), some (.int spot), none, none] ∧ DO k0 (Dk k0) st st') ?_ ?_
  · wp_walk using cf_ddraw, len
    refine (ddraw_ok k0).nat hB hpos (by omega) fun i st1 b1 hi => ?_
    wp_walk
    refine (ddraw_ok k0).nat (many := 9) b1.deck (by omega) (by omega) fun spot st2 b2 hs => ?_
    exact ⟨i, spot, hi, hs, rfl, b1.trans b2⟩
  rintro _ st1 ⟨i, spot, hi, hs, rfl, b1⟩
  generalize hm : p.ms[i] = m
  have ixi : ∀ st, ixD (.tup (p.ms.map eM)) (.int (i : Nat)) st = .ok (.tup (eMl m)) st := fun st => by
    rw [ix_tup (get_mn hi), hm]; rfl
  refine w_cut (fun e st' => e = [some (.loc 0), some (eP p), some (eH p.h), some (.tup (p.ms.map eM)), some (.int i), some (.int spot), some (.lst [.str "none", .str "lazy", .str "forced"]), some (.loc st1.length)] ∧ st' = st1 ++ [.lst (eMl m)]) ?_ ?_
  · wp_walk using ixi, listD_tupT
    exact ⟨trivial, trivial⟩
  rintro _ _ ⟨rfl, rfl⟩
  have hk : k0 ≤ st1.length := (ddraw_ok k0).len b1.deck
  have b2 := b1.pushed (ddraw_ok k0) [.lst (eMl m)]
  have keep : ∀ {st'}, DO k0 (Dk k0) (st1 ++ [.lst (eMl m)]) st' → st'[st1.length]? = some (.lst (eMl m)) := fun {st'} b => b.frm.get hk (get_at0 (.lst (eMl m)))
  have h9 : spot = 0 ∨ spot = 1 ∨ spot = 2 ∨ 3 ≤ spot := by omega
  refine w_cut (fun e st' => 3 ≤ spot ∧ e = [some (.loc 0), some (eP p), some (eH p.h), some (.tup (p.ms.map eM)), some (.int i), some (.int spot), some (.lst [.str "none", .str "lazy", .str "forced"]), some (.loc st1.length)] ∧ st' = st1 ++ [.lst (eMl m)]) ?_ ?_
  · have pk : ∀ (K : D → Sto → Prop) Y, (∀ (w : S3) st2, DO k0 (Dk k0) (st1 ++ [.lst (eMl m)]) st2 → K (eS w) st2) → wR (runBody 2 (B_pickG F_ddraw) [.loc 0, .lst [.str "none", .str "lazy", .str "forced"]] (st1 ++ [.lst (eMl m)])) K Y := fun K Y h =>
      (ddraw_ok k0).pick_m [S3.n, .l, .f] eS rfl rfl b2.deck (by simp) (by simp) fun w st2 _ b3 => h w st2 b3
    rcases h9 with rfl | rfl | rfl | h3
    · wp_walk using cfp, Int.cast_ofNat_Int, Int.reduceLT
      rw [show sliceD false (eH p.h) none (some 0) (st1 ++ [.lst (eMl m)]) = .ok (.tup ([eS p.h.b, eS p.h.c, eS p.h.a].take 0)) (st1 ++ [.lst (eMl m)]) from rfl, wR_ok]
      refine pk _ _ fun w st2 b3 => ?_
      have l1 : ([eS p.h.b, eS p.h.c, eS p.h.a].take 0).length + 1 ≤ lim := le_lim (by simp)
      wp_walk using l1
      rw [show ∀ st, sliceD false (eH p.h) (some (0 + 1)) none st = .ok (.tup ([eS p.h.b, eS p.h.c, eS p.h.a].drop 1)) st from fun _ => rfl, wR_ok]
      have l2 : ([eS p.h.b, eS p.h.c, eS p.h.a].take 0 ++ [eS w]).length + ([eS p.h.b, eS p.h.c, eS p.h.a].drop 1).length ≤ lim := le_lim (by simp)
      wp_walk using l2
      exact k ⟨⟨w, p.h.c, p.h.a⟩, p.ms⟩ st2 rfl (b2.trans b3)
    · wp_walk using cfp, Int.cast_ofNat_Int, Int.reduceLT
      rw [show sliceD false (eH p.h) none (some 1) (st1 ++ [.lst (eMl m)]) = .ok (.tup ([eS p.h.b, eS p.h.c, eS p.h.a].take 1)) (st1 ++ [.lst (eMl m)]) from rfl, wR_ok]
      refine pk _ _ fun w st2 b3 => ?_
      have l1 : ([eS p.h.b, eS p.h.c, eS p.h.a].take 1).length + 1 ≤ lim := le_lim (by simp)
      wp_walk using l1
      rw [show ∀ st, sliceD false (eH p.h) (some (1 + 1)) none st = .ok (.tup ([eS p.h.b, eS p.h.c, eS p.h.a].drop 2)) st from fun _ => rfl, wR_ok]
      have l2 : ([eS p.h.b, eS p.h.c, eS p.h.a].take 1 ++ [eS w]).length + ([eS p.h.b, eS p.h.c, eS p.h.a].drop 2).length ≤ lim := le_lim (by simp)
      wp_walk using l2
      exact k ⟨⟨p.h.b, w, p.h.a⟩, p.ms⟩ st2 rfl (b2.trans b3)
    · wp_walk using cfp, Int.cast_ofNat_Int, Int.reduceLT
      rw [show sliceD false (eH p.h) none (some 2) (st1 ++ [.lst (eMl m)]) = .ok (.tup ([eS p.h.b, eS p.h.c, eS p.h.a].take 2)) (st1 ++ [.lst (eMl m)]) from rfl, wR_ok]
      refine pk _ _ fun w st2 b3 => ?_
      have l1 : ([eS p.h.b, eS p.h.c, eS p.h.a].take 2).length + 1 ≤ lim := le_lim (by simp)
      wp_walk using l1
      rw [show ∀ st, sliceD false (eH p.h) (some (2 + 1)) none st = .ok (.tup ([eS p.h.b, eS p.h.c, eS p.h.a].drop 3)) st from fun _ => rfl, wR_ok]
      have l2 : ([eS p.h.b, eS p.h.c, eS p.h.a].take 2 ++ [eS w]).length + ([eS p.h.b, eS p.h.c, eS p.h.a].drop 3).length ≤ lim := le_lim (by simp)
      wp_walk using l2
      exact k ⟨⟨p.h.b, p.h.c, w⟩, p.ms⟩ st2 rfl (b2.trans b3)
    · have lt3 : ((spot : Int) < 3) = False := propext ⟨fun h => by omega, fun h => h.elim⟩
      wp_walk using lt3
      exact ⟨h3, trivial, trivial⟩
  rintro _ _ ⟨h3, rfl, rfl⟩
  refine w_cut (fun e st' => e = [some (.loc 0), some (eP p), some (eH p.h), some (.tup (p.ms.map eM)), some (.int i), some (.int spot), some (.lst [.str "none", .str "lazy", .str "forced"]), some (.loc st1.length)] ∧ ∃ m', DO k0 (Dk k0) st st' ∧ st'[st1.length]? = some (.lst (eMl m'))) ?_ ?_
  · have put : ∀ {st' : Sto} (j : Nat) (y : D) (m' : Mn) (N : Sto → Prop), (∀ st'', (∃ m', DO k0 (Dk k0) st st'' ∧ st''[st1.length]? = some (.lst (eMl m'))) → N st'') → DO k0 (Dk k0) (st1 ++ [.lst (eMl m)]) st' → j < 6 → (eMl m).set j y = eMl m' → lpGet (lstOf st' (.loc st1.length)) (.int (j : Nat)) y N st' := fun {st'} j y m' N hN b hj e => by
      rw [lpGet_ev (keep b) hj, e]
      refine hN _ ⟨m', ⟨(ddraw_ok k0).set b.deck hk _, ((b1.frm.trans (.push _)).trans b.frm).put b1.frm.len⟩, ?_⟩
      rw [List.getElem?_set_self (List.getElem?_eq_some_iff.mp (keep b)).1]
    have b0 : DO k0 (Dk k0) (st1 ++ [.lst (eMl m)]) (st1 ++ [.lst (eMl m)]) := .refl b2.deck
    have h9 : spot = 3 ∨ spot = 4 ∨ spot = 5 ∨ spot = 6 ∨ spot = 7 ∨ spot = 8 := by omega
    rcases h9 with rfl | rfl | rfl | rfl | rfl | rfl
    · wp_walk using cfp, Int.cast_ofNat_Int, Int.reduceLT, w_LPut
      refine (ddraw_ok k0).pick_m [S3.n, .l, .f] eS rfl rfl b2.deck (by simp) (by simp) fun w st2 _ b3 => ?_
      wp_walk
      exact put 0 _ ⟨w, m.c, m.a, m.t, m.e, m.s⟩ _ (fun st'' h => ⟨trivial, h⟩) b3 (by omega) rfl
    · wp_walk using cfp, Int.cast_ofNat_Int, Int.reduceLT, w_LPut
      refine (ddraw_ok k0).pick_m [S3.n, .l, .f] eS rfl rfl b2.deck (by simp) (by simp) fun w st2 _ b3 => ?_
      wp_walk
      exact put 1 _ ⟨m.p, w, m.a, m.t, m.e, m.s⟩ _ (fun st'' h => ⟨trivial, h⟩) b3 (by omega) rfl
    · wp_walk using cfp, Int.cast_ofNat_Int, Int.reduceLT, w_LPut
      refine (ddraw_ok k0).pick_m [S3.n, .l, .f] eS rfl rfl b2.deck (by simp) (by simp) fun w st2 _ b3 => ?_
      wp_walk
      exact put 2 _ ⟨m.p, m.c, w, m.t, m.e, m.s⟩ _ (fun st'' h => ⟨trivial, h⟩) b3 (by omega) rfl
    · wp_walk using cfp, Int.cast_ofNat_Int, Int.reduceLT, Int.reduceBEq, w_LPut
      refine (ddraw_ok k0).pick_m [Th.o, .a, .c, .b] eT rfl rfl b2.deck (by simp) (by simp) fun w st2 _ b3 => ?_
      wp_walk
      exact put 3 _ ⟨m.p, m.c, m.a, w, m.e, m.s⟩ _ (fun st'' h => ⟨trivial, h⟩) b3 (by omega) rfl
    · wp_walk using cfp, Int.cast_ofNat_Int, Int.reduceLT, Int.reduceBEq, w_LPut
      rw [show ixD (.loc st1.length) (.int 4) (st1 ++ [.lst (eMl m)]) = .ok (eE m.e) _ from ix_locE (i := 4) (keep b0) rfl, wR_ok, eq_Ec]
      wp_walk
      split
      · rename_i h
        exact put 4 _ ⟨m.p, m.c, m.a, m.t, false, m.s⟩ _ (fun st'' h => ⟨trivial, h⟩) b0 (by omega) rfl
      · exact put 4 _ ⟨m.p, m.c, m.a, m.t, true, m.s⟩ _ (fun st'' h => ⟨trivial, h⟩) b0 (by omega) rfl
    · wp_walk using cfp, Int.cast_ofNat_Int, Int.reduceLT, Int.reduceBEq, w_LPut
      rw [show ixD (.loc st1.length) (.int 5) (st1 ++ [.lst (eMl m)]) = .ok (.bl m.s) _ from ix_locE (i := 5) (keep b0) rfl, wR_ok]
      wp_walk
      exact put 5 _ ⟨m.p, m.c, m.a, m.t, m.e, !m.s⟩ _ (fun st'' h => ⟨trivial, h⟩) b0 (by omega) rfl
  rintro _ st' ⟨rfl, m', b3, hl7⟩
  have l1 : ((p.ms.map eM).take i).length + 1 ≤ lim := le_lim (by rw [List.length_take, List.length_map]; omega)
  have l2 : ((p.ms.map eM).take i).length + 1 + ((p.ms.map eM).drop (i + 1)).length ≤ lim := le_lim (by rw [List.length_take, List.length_drop, List.length_map]; omega)
  wp_walk using tupleD_loc hl7, l1, l2, List.length_append
  have e := ms_put p.ms i m'
  rw [eM_l] at e
  rw [e]
  refine k ⟨p.h, p.ms.take i ++ [m'] ++ p.ms.drop (i + 1)⟩ st' ?_ b3
  simp only [List.length_append, List.length_take, List.length_drop, List.length_cons, List.length_nil]
  omega
theorem dprotocol_w {many : Nat} (h0 : 0 < many) (hm : many ≤ 50) (hB : Dk k0 st) (k : ∀ (p : Pr) st', p.ms.length = many → DO k0 (Dk k0) st st' → Q (eP p) st') : wR (F_d_protocol.run [.loc 0, .int (many : Nat)] st) Q X := by
  rw [ub_d_protocol]
  unfold body_d_protocol
  wp_walk using cf_d_head
  refine dhead_w hB fun h st1 b1 => ?_
  wp_walk
  refine w_Lc (i_range ?_)
  wp_walk
  refine ⟨many, rfl, by omega, ?_⟩
  refine mapW_w (fun r acc st' => ∃ ms : List Mn, acc = ms.map eM ∧ acc.length + r.length = many ∧ DO k0 (Dk k0) st st') ?hN (upto many) [] st1 (by rw [upto_len]; exact Nat.le_trans (by simpa using hm) (by decide)) ⟨[], rfl, by rw [upto_len]; simp, b1⟩ ?step
  case hN =>
    rintro ys st' ⟨ms, rfl, l, b⟩
    have l' : ms.length = many := by simpa using l
    have e1 : D.tup [eH h, .tup (ms.map eM)] = eP ⟨h, ms⟩ := rfl
    wp_walk using cf_ddraw, e1
    refine (ddraw_ok k0).w b.deck (by decide) fun r st2 b2 _ _ => ?_
    wp_walk using cf_d_turned
    split
    · exact k _ st2 l' (b.trans b2)
    · refine dturned_w (p := ⟨h, ms⟩) (fun z => ?_) (by show ms.length ≤ 50; omega) b2.deck fun p' st3 e3 b3 => ?_
      · have z : ms = [] := z
        rw [z] at l'
        simp at l'
        omega
      · exact k p' st3 (e3.trans l') ((b.trans b2).trans b3)
  case step =>
    rintro x r acc st' _ ⟨ms, rfl, l, b⟩
    wp_walk using name_m, cf_ddraw
    refine (ddraw_ok k0).w b.deck (by decide) fun r st2 b2 _ _ => ?_
    wp_walk using show ∀ (a : D) st, callF F_anyM [a] st = F_anyM.run [a] st from fun _ _ => rfl, show ∀ (a b : D) st, callF F_fitM [a, b] st = F_fitM.run [a, b] st from fun _ _ _ => rfl
    split
    · exact anyM_w b2.deck fun m st3 b3 => ⟨ms ++ [m], by simp, by simp at l ⊢; omega, (b.trans b2).trans b3⟩
    · exact fitM_w b2.deck fun m st3 b3 => ⟨ms ++ [m], by simp, by simp at l ⊢; omega, (b.trans b2).trans b3⟩
/-! ### safe protocols -/
def aloneB (h : Hd) (m : Mn) : Bool := m.e && hasA m.t && (isF m.p && (isF m.a && isF h.a)) && (isN h.b || isF h.c)
theorem alone_run (h : Hd) (m : Mn) : F_z_alone_fits.run [eH h, eM m] st = .ok (.bl (aloneB h m)) st := by
  have w : wR (F_z_alone_fits.run [eH h, eM m] st) (fun d st' => d = .bl (aloneB h m) ∧ st' = st) nX := by
    rw [ub_z_alone_fits]
    unfold body_z_alone_fits aloneB
    have c1 : ∀ st, cmpD .NotEq (eE m.e) (.str "commit") st = .ok (.bl (!m.e)) st := fun st => by cases m.e <;> kernel_rfl
    wp_walk using tg_six, c1, notin_a, ne_Sf, eq_Sf, eq_Sn, ix_H0, ix_H1, ix_H2
    cases m.e <;> cases hasA m.t <;> cases isF m.p <;> cases isF m.a <;> cases isF h.a <;> cases isN h.b <;> cases isF h.c <;> wp_walk <;> exact ⟨rfl, trivial⟩
  obtain ⟨d, st', e, rfl, rfl⟩ := wR_get w
  exact e
def safeB (p : Pr) : Bool := match p.ms with
  | [m] => aloneB p.h m || noLack p.h m
  | ms => ms.all (noLack p.h)
theorem issafe_w {p : Pr} (hl : p.ms.length ≤ 50) (k : ∀ L, Q (.bl (safeB p)) (st ++ L)) : wR (F_z_is_safe.run [eP p] st) Q X := by
  rw [ub_z_is_safe]
  unfold body_z_is_safe
  have len : ∀ st, lenD [.tup (p.ms.map eM)] st = .ok (.int (p.ms.length : Nat)) st := fun st => by rw [lenD_tup, List.length_map]
  have rest : ∀ (K : D → Sto → Prop), (∀ L, K (.bl (p.ms.all (noLack p.h))) (st ++ L)) → wR (mAA true (imSeq (mVar 2)) [3] (Tg.name 3).m (mFn F_fits [0, 1] [mVar 1, mVar 3] []) [some (eP p), some (eH p.h), some (.tup (p.ms.map eM)), none] st) K X := fun K hK => by
    refine w_AA (i_seq ?_)
    wp_walk
    refine ⟨_, rfl, ?_⟩
    refine aaW_w eM (noLack p.h) (fun st' => ∃ L, st' = st ++ L) p.ms st ⟨[], by rw [List.append_nil]⟩ (fun m _ st' ⟨L, e⟩ => ?_) ?_
    · subst e
      wp_walk using cf_fits
      refine fits_w p.h m fun L2 => ?_
      exact ⟨rfl, _, app_app _ _ _⟩
    · rintro st' ⟨L, rfl⟩
      exact hK L
  have e0 : eP p = .tup [eH p.h, .tup (p.ms.map eM)] := rfl
  rw [w_Seq, w_Asg, w_Var]
  simp only [List.getElem?_cons_zero, vGet_some]
  rw [e0, tg_two, gGet_some, ← e0]
  simp only [List.set_cons_zero, List.set_cons_succ]
  by_cases h1 : p.ms.length = 1
  · obtain ⟨m, hm⟩ : ∃ m, p.ms = [m] := List.length_eq_one_iff.mp h1
    have c : ((p.ms.length : Int) == 1) = true := by rw [h1]; rfl
    have i0 : ∀ st, ixD (.tup (p.ms.map eM)) (.int 0) st = .ok (eM m) st := fun st => by rw [hm]; rfl
    have sb : safeB p = (aloneB p.h m || noLack p.h m) := by unfold safeB; rw [hm]
    have al : ∀ st, callF F_z_alone_fits [eH p.h, eM m] st = .ok (.bl (aloneB p.h m)) st := fun st => (cf_z_alone_fits).trans (alone_run p.h m)
    wp_walk using len, c, i0, al
    split
    · rename_i h
      have z := k []
      rw [List.append_nil, sb, h] at z
      exact z
    · rename_i h
      refine rest _ fun L => ?_
      have z := k L
      rw [sb] at z
      simp only [hm, List.all_cons, List.all_nil, Bool.and_true]
      have hf : aloneB p.h m = false := by simpa using h
      rw [hf, Bool.false_or] at z
      exact z
  · have c : ((p.ms.length : Int) == 1) = false := by
      apply Bool.eq_false_iff.mpr
      intro z
      exact h1 (by have := eq_of_beq z; omega)
    have sb : safeB p = p.ms.all (noLack p.h) := by
      unfold safeB
      split
      · rename_i m e
        rw [e] at h1
        exact absurd rfl h1
      · rfl
    wp_walk using len, c
    refine rest _ fun L => ?_
    have z := k L
    rw [sb] at z
    exact z
theorem lmul_f (e : Sl) (st : Sto) : mLMul false [mC (.str "forced")] (mC (.int 3)) e st = .ok (.lst [.str "forced", .str "forced", .str "forced"]) st := by kernel_rfl
theorem eq_fff (a b c : S3) : cmpD .Eq (.lst [eS a, eS b, eS c]) (.lst [.str "forced", .str "forced", .str "forced"]) st = .ok (.bl (isF a && (isF b && isF c))) st := by
  cases a <;> cases b <;> cases c <;> kernel_rfl
theorem dsafe_w {p : Pr} (hn : p.ms ≠ []) (hl : p.ms.length ≤ 50) (k : ∀ L, Q (.bl (safeB p)) (st ++ L)) : wR (F_d_is_safe.run [eP p] st) Q X := by
  rw [ub_d_is_safe]
  unfold body_d_is_safe
  have len : ∀ st, lenD [.tup (p.ms.map eM)] st = .ok (.int (p.ms.length : Nat)) st := fun st => by rw [lenD_tup, List.length_map]
  have e0 : eP p = .tup [eH p.h, .tup (p.ms.map eM)] := rfl
  rw [w_Seq, w_Asg, w_Var]
  simp only [List.getElem?_cons_zero, vGet_some]
  rw [e0, tg_two, gGet_some, ← e0]
  simp only [List.set_cons_zero, List.set_cons_succ]
  refine w_cut (fun e st' => p.ms.all (noLack p.h) = false ∧ e = [some (eP p), some (eH p.h), some (.tup (p.ms.map eM)), none, none] ∧ ∃ L, st' = st ++ L) ?_ ?_
  · wp_walk
    refine w_Lc (i_seq ?_)
    wp_walk
    refine ⟨_, rfl, ?_⟩
    refine mapW_I eM (fun m => !noLack p.h m) eM (fun st' => ∃ L, st' = st ++ L) p.ms [] st (Nat.le_trans (by simpa using hl) (by decide)) ⟨[], by rw [List.append_nil]⟩ (fun m _ st' ⟨L, e⟩ => ?_) ?_
    · subst e
      wp_walk using name_m, show ∀ (a b : D) st, callF F_lawLacks [a, b] st = F_lawLacks.run [a, b] st from fun _ _ _ => rfl
      refine lawLacks_w p.h m fun L2 => ?_
      wp_walk using ne_of_eq (eq_lack p.h m _)
      exact ⟨trivial, ⟨_, app_app _ _ _⟩, fun _ => ⟨trivial, _, app_app _ _ _⟩⟩
    · rintro st' ⟨L, rfl⟩
      have e1 : (((p.ms.filter fun m => !noLack p.h m).map eM).isEmpty) = p.ms.all (noLack p.h) := by
        rw [Bool.eq_iff_iff, List.isEmpty_iff, List.map_eq_nil_iff, List.filter_eq_nil_iff, List.all_eq_true]
        simp
      have q : ∀ st, cmpD .Eq (.lst ((p.ms.filter fun m => !noLack p.h m).map eM)) (.lst []) st = .ok (.bl (p.ms.all (noLack p.h))) st := fun st => by
        rw [eq_lnil_sh (sh_eMs _), e1]
      wp_walk using q
      split
      · rename_i h
        have z := k L
        have sb : safeB p = true := by
          unfold safeB
          split
          · rename_i m e
            rw [e] at h
            simp at h
            rw [h, Bool.or_true]
          · exact h
        rw [sb] at z
        exact z
      · rename_i h
        exact ⟨by simpa using h, trivial, _, rfl⟩
  rintro _ _ ⟨hall, rfl, L, rfl⟩
  by_cases h1 : p.ms.length = 1
  · obtain ⟨m, hm⟩ : ∃ m, p.ms = [m] := List.length_eq_one_iff.mp h1
    have i0 : ∀ st, ixD (.tup (p.ms.map eM)) (.int 0) st = .ok (eM m) st := fun st => by rw [hm]; rfl
    have c : ((1 : Int) < (p.ms.length : Int)) = False := propext ⟨fun h => by omega, fun h => h.elim⟩
    have nl : noLack p.h m = false := by
      rw [hm] at hall
      simpa using hall
    have sb : safeB p = aloneB p.h m := by unfold safeB; rw [hm]; simp [nl]
    have z := k L
    rw [sb] at z
    have c1 : ∀ st, cmpD .NotEq (eE m.e) (.str "commit") st = .ok (.bl (!m.e)) st := fun st => by cases m.e <;> kernel_rfl
    unfold aloneB at z
    wp_walk using len, c, i0, c1, ix_M0, ix_M2, ix_M3, ix_M4, ix_H0, ix_H1, ix_H2, notin_a, lmul_f, eq_fff, eq_Sn, eq_Sf
    cases he : m.e <;> cases ht : hasA m.t <;> cases hf : (isF m.p && (isF m.a && isF p.h.a)) <;> cases hN : isN p.h.b <;> cases hF : isF p.h.c <;> wp_walk <;> (rw [he, ht, hf, hN, hF] at z; exact z)
  · have hpos : 0 < p.ms.length := List.length_pos_iff.mpr hn
    have c : ((1 : Int) < (p.ms.length : Int)) = True := propext ⟨fun _ => trivial, fun _ => by omega⟩
    wp_walk using len, c
    have sb : safeB p = false := by
      unfold safeB
      split
      · rename_i m e
        rw [e] at h1
        exact absurd rfl h1
      · exact hall
    have z := k L
    rw [sb] at z
    exact z
end
end DX

set_option linter.all false
set_option maxRecDepth 100000
set_option Elab.async false
namespace K30
open PySem PySem.Spec PyProof.Rows L2 DX
local macro_rules | `(tactic| wp_walk) => `(tactic| try simp only [w_C, w_Var, vGet_some, w_Lnil, w_Lcons, w_Op, w_Call, w_Tup, w_Lst, w_LstT, w_Fn, w_If, w_Tst, tGet_bl, w_Tru, uGet_some, w_tAnd, w_tOr, w_tNot, w_And, w_Or, w_Not, w_Slice, w_pN, w_pS, iGet_int, w_Neg, w_Back, w_EdF, w_EdT, w_Seq, w_sNx, w_Expr, w_Ret, w_sIf, w_Asg, g_name, gGet_some, w_Par, w_Par3, retP_nx, retP_rt, retP_ex, wS_nx, wS_bk, wS_ct, wS_rt, wR_ok, wR_bind, List.getElem?_cons_zero, List.getElem?_cons_succ, List.set_cons_zero, List.set_cons_succ, pick, List.filterMap_cons, List.filterMap_nil, List.cons_append, List.nil_append, List.append_nil, if_true, if_false, Bool.false_eq_true, Bool.not_true, Bool.not_false, List.length_cons, List.length_nil, List.replicate_succ, List.replicate_zero, Nat.reduceSub, List.map_cons, List.map_nil, fits_small, add_lst, add_tup, DX.add_int, DX.sub_int, eq_ii, ne_ii, newC_f, tru_bl, tru_int, tupleD_lst, tupleD_tup, listD_lst, listD_tup, lenD_lst, lenD_tup, back_tup, back_lst, slice_tup, slice_lst, cmp_lt, cmp_le, cmp_gt, cmp_ge, int_int, int_bl, cmp_isnon, cmp_isnotnon, Nat.reduceAdd, Nat.reduceLeDiff, decide_eq_true_eq, asg_name, mLst_nil, cutL_to, cutL_from, cst1, asg_two, tg_two, tg_three, gm_tg, wipeE, notT_eq, Bool.true_eq_false, le_lim])
local macro_rules | `(tactic| wp_walk using $ls,*) => `(tactic| try simp only [w_C, w_Var, vGet_some, w_Lnil, w_Lcons, w_Op, w_Call, w_Tup, w_Lst, w_LstT, w_Fn, w_If, w_Tst, tGet_bl, w_Tru, uGet_some, w_tAnd, w_tOr, w_tNot, w_And, w_Or, w_Not, w_Slice, w_pN, w_pS, iGet_int, w_Neg, w_Back, w_EdF, w_EdT, w_Seq, w_sNx, w_Expr, w_Ret, w_sIf, w_Asg, g_name, gGet_some, w_Par, w_Par3, retP_nx, retP_rt, retP_ex, wS_nx, wS_bk, wS_ct, wS_rt, wR_ok, wR_bind, List.getElem?_cons_zero, List.getElem?_cons_succ, List.set_cons_zero, List.set_cons_succ, pick, List.filterMap_cons, List.filterMap_nil, List.cons_append, List.nil_append, List.append_nil, if_true, if_false, Bool.false_eq_true, Bool.not_true, Bool.not_false, List.length_cons, List.length_nil, List.replicate_succ, List.replicate_zero, Nat.reduceSub, List.map_cons, List.map_nil, fits_small, add_lst, add_tup, DX.add_int, DX.sub_int, eq_ii, ne_ii, newC_f, tru_bl, tru_int, tupleD_lst, tupleD_tup, listD_lst, listD_tup, lenD_lst, lenD_tup, back_tup, back_lst, slice_tup, slice_lst, cmp_lt, cmp_le, cmp_gt, cmp_ge, int_int, int_bl, cmp_isnon, cmp_isnotnon, Nat.reduceAdd, Nat.reduceLeDiff, decide_eq_true_eq, asg_name, mLst_nil, cutL_to, cutL_from, cst1, asg_two, tg_two, tg_three, gm_tg, wipeE, notT_eq, Bool.true_eq_false, le_lim, $[$ls:term],*])
theorem e_draw : F_w_draw = DX.F_ddraw := rfl
theorem e_pick : F_w_pick = F_pickG DX.F_ddraw := rfl
theorem e_lacks : F_w_lacks = DX.F_lawLacks := rfl
theorem e_fits : F_fits = DX.F_fits := rfl
theorem e_fit : F_w_fit_manner = DX.F_fitM := rfl
theorem e_any : F_w_any_manner = DX.F_anyM := rfl
theorem e_safe : F_is_safe = DX.F_z_is_safe := rfl
theorem e_lsafe : F_w_is_safe = DX.F_d_is_safe := rfl
theorem e_prot : F_w_protocol = DX.F_d_protocol := rfl
theorem repr_locE {st : Sto} {n m d : Nat} {xs : List D} (h : st[n]? = some (.lst xs)) (s : Sh m d (.lst xs)) (hm : m ≤ 1000000) (hd : d ≤ 64) : reprD [.loc n] st = .ok (.str (told (.lst xs))) st := by
  obtain ⟨p, e, ok⟩ := s.ok hm hd
  have v : view st (.loc n) = some p := by
    simp only [view, flat, h]
    exact e
  unfold reprD
  simp only [v, ok, if_true, told, e]
section
variable {k0 : Nat} {st : Sto} {Q : D → Sto → Prop} {X : XP}
theorem rep_b (b : Bool) : ∀ st, reprD [.bl b] st = .ok (.str (told (.bl b))) st := fun st => repr_ev (sh_bl b) (by decide) (by decide)
theorem eq_told {n d : Nat} {x : D} (s : Sh n d x) : ∀ st, cmpD .Eq (.str (told x)) (.str (told x)) st = .ok (.bl true) st := fun st => by
  rw [eq_str_ev (told_ok s) (told_ok s), show (told x == told x) = true from beq_self_eq_true _]
theorem safe_w {p : Pr} (hl : p.ms.length ≤ 50) (k : ∀ L, Q (.bl (safeB p)) (st ++ L)) : wR (F_is_safe.run [eP p] st) Q X := by rw [e_safe]; exact issafe_w hl k
theorem lsafe_w {p : Pr} (hn : p.ms ≠ []) (hl : p.ms.length ≤ 50) (k : ∀ L, Q (.bl (safeB p)) (st ++ L)) : wR (F_w_is_safe.run [eP p] st) Q X := by rw [e_lsafe]; exact dsafe_w hn hl k
theorem fits2_w (h : Hd) (m : Mn) (k : ∀ L, Q (.bl (noLack h m)) (st ++ L)) : wR (F_fits.run [eH h, eM m] st) Q X := by rw [e_fits]; exact fits_w h m k
theorem lacks2_w (h : Hd) (m : Mn) (k : ∀ L, Q (lackD h m) (st ++ L)) : wR (F_w_lacks.run [eH h, eM m] st) Q X := by rw [e_lacks]; exact lawLacks_w h m k
theorem safe_many {h : Hd} {ms : List Mn} (l : 2 ≤ ms.length) : safeB ⟨h, ms⟩ = ms.all (noLack h) := by
  unfold safeB
  split
  · rename_i m e
    have e : ms = [m] := e
    rw [e] at l
    simp at l
  · rfl
theorem rng27 (e : Sl) (st : Sto) : imR2 (mC (.int 2)) (mC (.int 7)) e st = .ok (.rng 2 5) st := by kernel_rfl
theorem i_27 {e : Sl} {K : List D → Sto → Prop} (h : K [.int (2 : Nat), .int (3 : Nat), .int (4 : Nat), .int (5 : Nat), .int (6 : Nat)] st) : wI (imR2 (mC (.int 2)) (mC (.int 7))) e st K X := by
  unfold wI
  rw [rng27, wR_ok]
  refine ⟨_, fun _ => rfl, fun st k => ?_, h⟩
  match k with
  | 0 => rfl
  | 1 => rfl
  | 2 => rfl
  | 3 => rfl
  | 4 => rfl
  | k + 5 => rfl
theorem lmul5 (b : Bool) (e : Sl) (st : Sto) (h : e[3]? = some (some (.bl b))) : mLMul false [mVar 3] (mC (.int 5)) e st = .ok (.lst [.bl b, .bl b, .bl b, .bl b, .bl b]) st := by
  have e1 : mVar 3 e st = .ok (.bl b) st := by unfold mVar; rw [h]
  unfold mLMul
  simp only [mL_cons, mL_nil, e1, bind_ok, mC_ev]
  kernel_rfl
theorem rep_one {α : Type} (x : α) : ∀ n, (List.replicate n [x]).flatten = List.replicate n x
  | 0 => rfl
  | n + 1 => by rw [List.replicate_succ, List.flatten_cons, rep_one x n]; rfl
theorem alike_w (h : Hd) (m : Mn) (b : Bool) : wR (F_w_are_alike_right.run [eH h, eM m, .bl b] st) (fun d st' => d = .bl true ∧ ∃ L, st' = st ++ L) nX := by
  rw [ub_w_are_alike_right]
  unfold body_w_are_alike_right
  refine w_cut (fun e st' => ∃ L, e = [some (eH h), some (eM m), some (.bl b), some (.bl (noLack h m)), some (.loc (st ++ L).length), none, none] ∧ st' = (st ++ L) ++ [.lst []]) ?_ ?_
  · wp_walk using cf_w_lacks
    refine lacks2_w h m fun L => ?_
    wp_walk using eq_lack, mLst_nilT
    exact ⟨L, rfl, rfl⟩
  rintro _ _ ⟨L, rfl, rfl⟩
  generalize hst : st ++ L = st1
  refine w_cut (fun e st' => ∃ x y L2, e = [some (eH h), some (eM m), some (.bl b), some (.bl (noLack h m)), some (.loc st1.length), x, y] ∧ st' = st1 ++ .lst [.bl (noLack h m), .bl (noLack h m), .bl (noLack h m), .bl (noLack h m), .bl (noLack h m)] :: L2) ?_ ?_
  · refine w_For (i_27 ?_)
    refine walk_w (fun r e st' => ∃ x y L2, r.length ≤ 5 ∧ e = [some (eH h), some (eM m), some (.bl b), some (.bl (noLack h m)), some (.loc st1.length), x, y] ∧ st' = st1 ++ .lst (List.replicate (5 - r.length) (.bl (noLack h m))) :: L2) ?hN _ _ _ ⟨_, _, [], by simp, rfl, rfl⟩ ?step
    case hN =>
      rintro e st' ⟨x, y, L2, _, rfl, rfl⟩
      exact ⟨x, y, L2, rfl, rfl⟩
    case step =>
      rintro z r e st' hz ⟨x, y, L2, hl, rfl, rfl⟩
      obtain ⟨n, hn2, hn6, rfl⟩ : ∃ n : Nat, 2 ≤ n ∧ n ≤ 6 ∧ z = .int n := by
        have := suf_mem hz
        simp only [List.mem_cons, List.mem_nil_iff, or_false] at this
        rcases this with rfl | rfl | rfl | rfl | rfl
        · exact ⟨2, by omega, by omega, rfl⟩
        · exact ⟨3, by omega, by omega, rfl⟩
        · exact ⟨4, by omega, by omega, rfl⟩
        · exact ⟨5, by omega, by omega, rfl⟩
        · exact ⟨6, by omega, by omega, rfl⟩
      have hl : r.length + 1 ≤ 5 := by simpa using hl
      have mu : ∀ st, mulD (.tup [eM m]) (.int (n : Nat)) st = .ok (.tup ((List.replicate n m).map eM)) st := fun st => by
        rw [mul_tup (by simp) (by omega) (by omega) (by simp)]
        congr 2
        rw [List.map_replicate, rep_one]
      have pe : D.tup [eH h, .tup ((List.replicate n m).map eM)] = eP ⟨h, List.replicate n m⟩ := rfl
      have sb : safeB ⟨h, List.replicate n m⟩ = noLack h m := by
        rw [safe_many (by rw [List.length_replicate]; exact hn2), List.all_replicate, if_neg (by omega)]
      simp only [asg_name, w_C, w_Var, vGet_some, w_Lnil, w_Lcons, w_Op, w_Call, w_Tup, w_Lst, w_LstT, w_Fn, w_If, w_Tst, tGet_bl, w_Tru, uGet_some, w_tAnd, w_tOr, w_tNot, w_And, w_Or, w_Not, w_Slice, w_pN, w_pS, iGet_int, w_Neg, w_Back, w_EdF, w_EdT, w_Seq, w_sNx, w_Expr, w_Ret, w_sIf, w_Asg, g_name, gGet_some, w_Par, w_Par3, retP_nx, retP_rt, retP_ex, wS_nx, wS_bk, wS_ct, wS_rt, wR_ok, wR_bind, List.getElem?_cons_zero, List.getElem?_cons_succ, List.set_cons_zero, List.set_cons_succ, pick, List.filterMap_cons, List.filterMap_nil, List.cons_append, List.nil_append, List.append_nil, if_true, if_false, Bool.false_eq_true, Bool.not_true, Bool.not_false, List.length_cons, List.length_nil, List.replicate_succ, List.replicate_zero, Nat.reduceSub, List.map_cons, List.map_nil, fits_small, add_lst, add_tup, DX.add_int, DX.sub_int, eq_ii, ne_ii, newC_f, tru_bl, tru_int, tupleD_lst, tupleD_tup, listD_lst, listD_tup, lenD_lst, lenD_tup, back_tup, back_lst, slice_tup, slice_lst, cmp_lt, cmp_le, cmp_gt, cmp_ge, int_int, int_bl, cmp_isnon, cmp_isnotnon, Nat.reduceAdd, Nat.reduceLeDiff, decide_eq_true_eq, asg_name, mLst_nil, cutL_to, cutL_from, cst1, asg_two, tg_two, tg_three, gm_tg, wipeE, notT_eq, Bool.true_eq_false, le_lim, mu, pe, w_Meth]
      have og : ∀ (acc : List D) (L3 : List O) K, oGet (st1 ++ .lst acc :: L3)[st1.length]? K = K acc := fun acc L3 K => by rw [get_at0]; rfl
      have lo : ∀ (acc : List D) (L3 : List O), lstOf (st1 ++ .lst acc :: L3) (.loc st1.length) = some (st1.length, acc) := fun acc L3 => lstOf_loc (get_at0 (.lst acc))
      have push : ∀ (K : D → Sto → Prop) Y, (∀ L4, K .non (st1 ++ .lst (List.replicate (5 - r.length) (.bl (noLack h m))) :: L4)) → wR (F_is_safe.run [eP ⟨h, List.replicate n m⟩] (st1 ++ .lst (List.replicate (5 - (r.length + 1)) (.bl (noLack h m))) :: L2)) (fun d st' => oGet st'[st1.length]? fun xs => wR (appendD st1.length xs [d] st') K Y) Y := fun K Y hK => by
        refine safe_w (by rw [List.length_replicate]; omega) fun L4 => ?_
        rw [sb, List.append_assoc, List.cons_append, og, append_lim (le_lim (by rw [List.length_replicate]; omega)), wR_ok, set0, List.set_cons_zero]
        have e5 : 5 - r.length = (5 - (r.length + 1)) + 1 := by omega
        have z := hK (L2 ++ L4)
        rw [e5, List.replicate_succ'] at z
        exact z
      rw [lo, lGet_some]
      have fin : ∀ L4, (loopP { (retP (fun d st' => d = D.bl true ∧ ∃ L, st' = st ++ L) nX) with nx := fun e st' => ∃ x y L2, e = [some (eH h), some (eM m), some (.bl b), some (.bl (noLack h m)), some (.loc st1.length), x, y] ∧ st' = st1 ++ .lst [.bl (noLack h m), .bl (noLack h m), .bl (noLack h m), .bl (noLack h m), .bl (noLack h m)] :: L2 } fun e st' => ∃ x y L2, r.length ≤ 5 ∧ e = [some (eH h), some (eM m), some (.bl b), some (.bl (noLack h m)), some (.loc st1.length), x, y] ∧ st' = st1 ++ .lst (List.replicate (5 - r.length) (.bl (noLack h m))) :: L2).nx [some (eH h), some (eM m), some (.bl b), some (.bl (noLack h m)), some (.loc st1.length), some (.int n), some (eP ⟨h, List.replicate n m⟩)] (st1 ++ .lst (List.replicate (5 - r.length) (.bl (noLack h m))) :: L4) := fun L4 => ⟨_, _, L4, by omega, rfl, rfl⟩
      split
      · split
        · rw [cf_is_safe]; exact push _ _ fin
        · rw [cf_is_safe]; exact push _ _ fin
      · rw [cf_is_safe]; exact push _ _ fin
  rintro _ _ ⟨x, y, L2, rfl, rfl⟩
  have s5 : Sh 200 3 (.lst [.bl (noLack h m), .bl (noLack h m), .bl (noLack h m), .bl (noLack h m), .bl (noLack h m)]) := (Sh.lst (n := 8) (d := 1) (k := 5) (sh_all_cons (sh_bl _) (sh_all_cons (sh_bl _) (sh_all_cons (sh_bl _) (sh_all_cons (sh_bl _) (sh_all_cons (sh_bl _) sh_all_nil))))) (Nat.le_refl _)).mono (by decide) (by decide)
  have r1 : reprD [.loc st1.length] (st1 ++ .lst [.bl (noLack h m), .bl (noLack h m), .bl (noLack h m), .bl (noLack h m), .bl (noLack h m)] :: L2) = .ok (.str (told (.lst [.bl (noLack h m), .bl (noLack h m), .bl (noLack h m), .bl (noLack h m), .bl (noLack h m)]))) _ := repr_locE (get_at0 _) s5 (by decide) (by decide)
  have r2 : ∀ st, reprD [.lst [.bl (noLack h m), .bl (noLack h m), .bl (noLack h m), .bl (noLack h m), .bl (noLack h m)]] st = .ok (.str (told (.lst [.bl (noLack h m), .bl (noLack h m), .bl (noLack h m), .bl (noLack h m), .bl (noLack h m)]))) st := fun st => repr_ev s5 (by decide) (by decide)
  have l5 : ∀ x y st, mLMul false [mVar 3] (mC (.int 5)) [some (eH h), some (eM m), some (.bl b), some (.bl (noLack h m)), some (.loc st1.length), x, y] st = .ok (.lst [.bl (noLack h m), .bl (noLack h m), .bl (noLack h m), .bl (noLack h m), .bl (noLack h m)]) st := fun x y st => lmul5 _ _ _ rfl
  have pe : D.tup [eH h, .tup [eM m]] = eP ⟨h, [m]⟩ := rfl
  have q5 : ∀ st, cmpD .NotEq (.str (told (.lst [.bl (noLack h m), .bl (noLack h m), .bl (noLack h m), .bl (noLack h m), .bl (noLack h m)]))) (.str (told (.lst [.bl (noLack h m), .bl (noLack h m), .bl (noLack h m), .bl (noLack h m), .bl (noLack h m)]))) st = .ok (.bl false) st := fun st => ne_of_eq (eq_told s5 st)
  wp_walk using r1, l5, r2, q5, pe, cf_is_safe, cf_w_is_safe
  refine safe_w (p := ⟨h, [m]⟩) (by simp) fun L4 => ?_
  wp_walk using rep_b, cf_w_is_safe
  refine lsafe_w (p := ⟨h, [m]⟩) (by simp) (by simp) fun L6 => ?_
  wp_walk using rep_b, eq_told (sh_bl _)
  rw [← hst]
  exact ⟨trivial, _, by rw [List.append_assoc st, List.append_assoc st, List.append_assoc st]⟩
theorem wider_all {h : Hd} {ms : List Mn} {m : Mn} (i : Nat) : (ms.take i ++ [m] ++ ms.drop i).all (noLack h) = (ms.all (noLack h) && noLack h m) := by
  have e : ms.all (noLack h) = ((ms.take i).all (noLack h) && (ms.drop i).all (noLack h)) := by
    rw [← List.all_append, List.take_append_drop]
  rw [e, List.all_append, List.all_append, List.all_cons, List.all_nil, Bool.and_true, Bool.and_right_comm]
theorem more_w {p : Pr} {m : Mn} (h2 : 2 ≤ p.ms.length) (hl : p.ms.length ≤ 40) (hB : Dk k0 st) : wR (F_w_is_more_right.run [.loc 0, eP p, eM m] st) (fun d st' => d = .bl true ∧ Dk k0 st') nX := by
  rw [ub_w_is_more_right]
  unfold body_w_is_more_right
  have len : ∀ st, lenD [.tup (p.ms.map eM)] st = .ok (.int (p.ms.length : Nat)) st := fun st => by rw [lenD_tup, List.length_map]
  have e0 : eP p = .tup [eH p.h, .tup (p.ms.map eM)] := rfl
  rw [w_Seq, w_Asg, w_Var]
  simp only [List.getElem?_cons_zero, List.getElem?_cons_succ, vGet_some]
  rw [e0, tg_two, gGet_some, ← e0]
  simp only [List.set_cons_zero, List.set_cons_succ, w_C, w_Var, vGet_some, w_Lnil, w_Lcons, w_Op, w_Call, w_Tup, w_Lst, w_LstT, w_Fn, w_If, w_Tst, tGet_bl, w_Tru, uGet_some, w_tAnd, w_tOr, w_tNot, w_And, w_Or, w_Not, w_Slice, w_pN, w_pS, iGet_int, w_Neg, w_Back, w_EdF, w_EdT, w_Seq, w_sNx, w_Expr, w_Ret, w_sIf, w_Asg, g_name, gGet_some, w_Par, w_Par3, retP_nx, retP_rt, retP_ex, wS_nx, wS_bk, wS_ct, wS_rt, wR_ok, wR_bind, List.getElem?_cons_zero, List.getElem?_cons_succ, List.set_cons_zero, List.set_cons_succ, pick, List.filterMap_cons, List.filterMap_nil, List.cons_append, List.nil_append, List.append_nil, if_true, if_false, Bool.false_eq_true, Bool.not_true, Bool.not_false, List.length_cons, List.length_nil, List.replicate_succ, List.replicate_zero, Nat.reduceSub, List.map_cons, List.map_nil, fits_small, add_lst, add_tup, DX.add_int, DX.sub_int, eq_ii, ne_ii, newC_f, tru_bl, tru_int, tupleD_lst, tupleD_tup, listD_lst, listD_tup, lenD_lst, lenD_tup, back_tup, back_lst, slice_tup, slice_lst, cmp_lt, cmp_le, cmp_gt, cmp_ge, int_int, int_bl, cmp_isnon, cmp_isnotnon, Nat.reduceAdd, Nat.reduceLeDiff, decide_eq_true_eq, asg_name, mLst_nil, cutL_to, cutL_from, cst1, asg_two, tg_two, tg_three, gm_tg, wipeE, notT_eq, Bool.true_eq_false, le_lim, cf_is_safe, len, cf_w_draw, e_draw]
  refine safe_w (by omega) fun L1 => ?_
  have b1 := (ddraw_ok k0).push hB L1
  have len1 : ((p.ms.length : Int) + 1) = ((p.ms.length + 1 : Nat) : Int) := by omega
  wp_walk using len, cf_w_draw, e_draw, len1
  refine (ddraw_ok k0).nat b1 (by omega) (by omega) fun i st2 b2 hi => ?_
  have l1 : ((p.ms.map eM).take i).length + 1 ≤ lim := le_lim (by rw [List.length_take, List.length_map]; omega)
  have l2 : ((p.ms.map eM).take i ++ [eM m]).length + ((p.ms.map eM).drop i).length ≤ lim := le_lim (by simp only [List.length_append, List.length_take, List.length_drop, List.length_map, List.length_cons, List.length_nil]; omega)
  have sl1 : ∀ st, sliceD false (.tup (p.ms.map eM)) none (some (i : Nat)) st = .ok (.tup ((p.ms.map eM).take i)) st := fun st => by rw [slice_tup, cutL_to]
  have sl2 : ∀ st, sliceD false (.tup (p.ms.map eM)) (some (i : Nat)) none st = .ok (.tup ((p.ms.map eM).drop i)) st := fun st => by rw [slice_tup, cutL_from]
  have pe : D.tup [eH p.h, .tup ((p.ms.map eM).take i ++ [eM m] ++ (p.ms.map eM).drop i)] = eP ⟨p.h, p.ms.take i ++ [m] ++ p.ms.drop i⟩ := by
    unfold eP
    simp only [List.map_append, List.map_take, List.map_drop, List.map_cons, List.map_nil]
  have sb : safeB p = p.ms.all (noLack p.h) := safe_many (h := p.h) h2
  have sw : safeB ⟨p.h, p.ms.take i ++ [m] ++ p.ms.drop i⟩ = (safeB p && noLack p.h m) := by
    rw [safe_many (by simp only [List.length_append, List.length_take, List.length_drop, List.length_cons, List.length_nil]; omega), wider_all, sb]
  wp_walk using sl1, sl2, l1, l2, pe, rep_b, cf_w_is_safe
  refine lsafe_w (fun z => by rw [z] at h2; simp at h2) (by omega) fun L3 => ?_
  have q5 : ∀ b st, cmpD .NotEq (.str (told (.bl b))) (.str (told (.bl b))) st = .ok (.bl false) st := fun b st => ne_of_eq (eq_told (sh_bl b) st)
  wp_walk using rep_b, q5, cf_fits
  refine fits2_w p.h m fun L4 => ?_
  wp_walk using cf_is_safe
  refine safe_w (p := ⟨p.h, p.ms.take i ++ [m] ++ p.ms.drop i⟩) (by simp only [List.length_append, List.length_take, List.length_drop, List.length_cons, List.length_nil]; omega) fun L5 => ?_
  have bf := (ddraw_ok k0).push ((ddraw_ok k0).push ((ddraw_ok k0).push b2.deck L3) L4) L5
  rw [sw]
  cases hs : safeB p <;> cases hn : noLack p.h m <;> wp_walk using rep_b, Bool.and_true, Bool.and_false, eq_told (sh_bl _), cf_w_lacks <;> refine lacks2_w p.h m fun L6 => ?_ <;> wp_walk using eq_lack, hn, rep_b, eq_told (sh_bl _) <;> exact ⟨trivial, (ddraw_ok k0).push bf L6⟩
theorem tg_one2 (a b : D) (e : Sl) : (Tg.tup (.cons (.name 3) (.cons (.tup (.cons (.name 4) (.nil))) (.nil)))).m (.tup [a, .tup [b]]) e = some ((e.set 3 (some a)).set 4 (some b)) := rfl
theorem law_true : ∀ ns : List Int, ns.length ≤ 63 → ∃ st', F_law.run [.lst (ns.map D.int)] [] = .ok (.bl true) st' := by
  intro ns hl
  have w : wR (F_law.run [.lst (ns.map D.int)] []) (fun d _ => d = .bl true) nX := by
    rw [ub_law]
    unfold body_law
    wp_walk using cf_w_deck
    obtain ⟨_, st1, e1, rfl, k0, b1, _⟩ := wR_get (deck_run (c0 := 1572130) (ns := ns))
    refine wR_eq (show F_w_deck.run _ _ = _ from e1) ?_
    refine w_For (i_range ?_)
    wp_walk
    refine ⟨6, rfl, by decide, ?_⟩
    refine walk_w (fun r e st' => ∃ a b c d f g i, e = [a, some (.loc 0), b, c, d, f, g, i] ∧ Dk k0 st') ?hN (upto 6) _ st1 ⟨_, _, _, _, _, _, _, rfl, b1⟩ ?step
    case hN =>
      rintro e st' ⟨a, b, c, d, f, g, i, rfl, _⟩
      wp_walk
    case step =>
      rintro x r e st' hx ⟨a, b, c, d, f, g, i, rfl, hB⟩
      obtain ⟨t, ht, rfl⟩ := upto_mem (suf_mem hx)
      rw [asg_name]
      simp only [List.set_cons_zero, List.set_cons_succ]
      refine w_cut (fun e st' => ∃ a h m f g i, e = [a, some (.loc 0), some (.int (t : Nat)), some (eH h), some (eM m), f, g, i] ∧ Dk k0 st') ?_ ?_
      · wp_walk using cf_w_protocol, e_prot
        refine dprotocol_w (many := 1) (by decide) (by decide) hB fun p st2 lp b2 => ?_
        obtain ⟨m, hm⟩ : ∃ m, p.ms = [m] := List.length_eq_one_iff.mp lp
        have pe : eP p = .tup [eH p.h, .tup [eM m]] := by unfold eP; rw [hm]; rfl
        rw [pe, tg_one2, gGet_some]
        simp only [List.set_cons_zero, List.set_cons_succ]
        exact ⟨_, _, _, _, _, _, rfl, b2.deck⟩
      rintro _ st2 ⟨a, h, m, f, g, i, rfl, b2⟩
      have s1 : Sh 300 5 (.lst [eH h, eM m]) := (Sh.lst (n := 140) (d := 3) (k := 2) (sh_all_cons ((sh_eH h).mono (by decide) (by decide)) (sh_all_cons (sh_eM m) sh_all_nil)) (Nat.le_refl _)).mono (by decide) (by decide)
      have r1 : ∀ st, reprD [.lst [eH h, eM m]] st = .ok (.str (told (.lst [eH h, eM m]))) st := fun st => repr_ev s1 (by decide) (by decide)
      refine w_cut (fun e st' => ∃ a g i, e = [a, some (.loc 0), some (.int (t : Nat)), some (eH h), some (eM m), some (.str (told (.lst [eH h, eM m]))), g, i] ∧ Dk k0 st') ?_ ?_
      · wp_walk using r1
        exact ⟨_, _, _, rfl, b2⟩
      rintro _ st3 ⟨a, g, i, rfl, b3⟩
      refine w_cut (fun e st' => ∃ a g i, e = [a, some (.loc 0), some (.int (t : Nat)), some (eH h), some (eM m), some (.str (told (.lst [eH h, eM m]))), g, i] ∧ Dk k0 st') ?_ ?_
      · wp_walk using cf_w_are_alike_right
        refine wR_mono (wR_X (alike_w h m _)) fun d st4 ⟨hd, L, e4⟩ => ?_
        subst hd e4
        wp_walk using r1, ne_of_eq (eq_told s1 _)
        exact ⟨_, _, _, rfl, (ddraw_ok k0).push b3 L⟩
      rintro _ st4 ⟨a, g, i, rfl, b4⟩
      refine w_cut (fun e st' => ∃ (a : Option D) (p : Pr) (f g i : Option D), 2 ≤ p.ms.length ∧ p.ms.length ≤ 5 ∧ e = [a, some (.loc 0), some (.int (t : Nat)), some (eH p.h), f, g, some (.tup (p.ms.map eM)), i] ∧ Dk k0 st') ?_ ?_
      · wp_walk using cf_w_protocol, e_prot, cf_w_draw, e_draw
        refine (ddraw_ok k0).nat (many := 4) b4 (by decide) (by decide) fun n st5 b5 hn => ?_
        have e2 : ((2 : Int) + (n : Nat)) = ((2 + n : Nat) : Int) := by omega
        wp_walk using e2, cf_w_protocol, e_prot
        refine dprotocol_w (many := 2 + n) (by omega) (by omega) b5.deck fun p st6 lp b6 => ?_
        have pe : eP p = .tup [eH p.h, .tup (p.ms.map eM)] := rfl
        rw [pe, tg_two, gGet_some]
        simp only [List.set_cons_zero, List.set_cons_succ]
        exact ⟨_, p, _, _, _, by omega, by omega, rfl, b6.deck⟩
      rintro _ st5 ⟨a, p, f, g, i, l2, l5, rfl, b5⟩
      refine w_cut (fun e st' => ∃ a f g m, e = [a, some (.loc 0), some (.int (t : Nat)), some (eH p.h), f, g, some (.tup (p.ms.map eM)), some (eM m)] ∧ Dk k0 st') ?_ ?_
      · have md : ∀ st, arD .Mod (.int (t : Nat)) (.int 2) st = .ok (.int (((t % 2 : Nat)) : Int)) st := fun st => mod_int (by decide)
        wp_walk using md, ix_H1, ne_Sf, cf_w_any_manner, cf_w_fit_manner, e_any, e_fit
        have any : wR (F_anyM.run [.loc 0] st5) (fun d st' => ∃ a' f' g' m, [a, some (.loc 0), some (.int (t : Nat)), some (eH p.h), f, g, some (.tup (p.ms.map eM)), some d] = [a', some (.loc 0), some (.int (t : Nat)), some (eH p.h), f', g', some (.tup (p.ms.map eM)), some (eM m)] ∧ Dk k0 st') nX :=
          anyM_w b5 fun m st6 b6 => ⟨_, _, _, m, rfl, b6.deck⟩
        have fit : wR (F_fitM.run [.loc 0, eH p.h] st5) (fun d st' => ∃ a' f' g' m, [a, some (.loc 0), some (.int (t : Nat)), some (eH p.h), f, g, some (.tup (p.ms.map eM)), some d] = [a', some (.loc 0), some (.int (t : Nat)), some (eH p.h), f', g', some (.tup (p.ms.map eM)), some (eM m)] ∧ Dk k0 st') nX :=
          fitM_w b5 fun m st6 b6 => ⟨_, _, _, m, rfl, b6.deck⟩
        split
        · exact wR_X any
        · cases isF p.h.c with
          | true => wp_walk; exact wR_X fit
          | false => wp_walk; exact wR_X any
      rintro _ st6 ⟨a, f, g, m, rfl, b6⟩
      have pe : D.tup [eH p.h, .tup (p.ms.map eM)] = eP p := rfl
      wp_walk using pe, cf_w_is_more_right
      refine wR_mono (wR_X (more_w l2 (by omega) b6)) fun d st7 ⟨hd, b7⟩ => ?_
      subst hd
      wp_walk
      exact ⟨_, _, _, _, _, _, _, rfl, b7⟩
  obtain ⟨d, st', e, rfl⟩ := wR_get w
  exact ⟨st', e⟩
end
end K30

open PySem PySem.W PyProof.Rows
set_option maxHeartbeats 0 in
theorem PySem.Challenge.cw_doubtbooks_k30_whole_alike_and_one_more_holds : PySem.Challenge.rw_doubtbooks_k30_whole_alike_and_one_more.Holds := by
  w_on; o_law; k_head; (case hw => w_witness2)
  k_fill
  refine DX.tab_run (l := PySem.Challenge.rw_doubtbooks_k30_whole_alike_and_one_more) (n := 63) (k := 20) (x := "script") (F := K30.F_law) (T := K30.T_18) rfl (by decide) rfl ⟨rfl, by decide, by decide⟩ (fun w h Y => PySem.W.kIn_of Y) rfl ?F (by decide +kernel) K30.law_true ?Tb
  case F =>
    intro w mg fa h KX G hmg base KB GB TB
    refine' K30.all_mk KX G TB ?a1 ?l1 ?c1 ?k1 ?a2 ?l2 ?c2 ?k2 ?a3 ?l3 ?c3 ?k3 ?a4 ?l4 ?c4 ?k4 ?a5 ?l5 ?c5 ?k5 ?a6 ?l6 ?c6 ?k6 ?a7 ?l7 ?c7 ?k7 ?a8 ?l8 ?c8 ?k8 ?a9 ?l9 ?c9 ?k9 ?a10 ?l10 ?c10 ?k10 ?a11 ?l11 ?c11 ?k11 ?a12 ?l12 ?c12 ?k12 ?a13 ?l13 ?c13 ?k13 ?a14 ?l14 ?c14 ?k14 ?a15 ?l15 ?c15 ?k15 ?a16 ?l16 ?c16 ?k16 ?a17 ?l17 ?c17 ?k17 ?a18 ?l18 ?c18 ?k18 ?a19 ?l19 ?c19 ?k19 ?z_len ?z_abs ?z_repr ?z_isinstance ?z_int ?z_list ?z_tuple ?z_str ?z_bool ?z_dict ?z_range ?z_enumerate ?z_zip ?z_sorted ?z_any ?z_all ?z_set ?z_min ?z_max ?z_sum ?z_reversed ?te_is_safe ?tq_is_safe ?tz_is_safe
    (case a1 => k_is); (case l1 => k_is); (case c1 => k_is); (case k1 => k_is); (case a2 => k_is); (case l2 => k_is)
    (case c2 => k_is); (case k2 => k_is); (case a3 => k_is); (case l3 => k_is); (case c3 => k_is); (case k3 => k_is)
    (case a4 => k_is); (case l4 => k_is); (case c4 => k_is); (case k4 => k_is); (case a5 => k_is); (case l5 => k_is)
    (case c5 => k_is); (case k5 => k_is); (case a6 => k_is); (case l6 => k_is); (case c6 => k_is); (case k6 => k_is)
    (case a7 => k_is); (case l7 => k_is); (case c7 => k_is); (case k7 => k_is); (case a8 => k_is); (case l8 => k_is)
    (case c8 => k_is); (case k8 => k_is); (case a9 => k_is); (case l9 => k_is); (case c9 => k_is); (case k9 => k_is)
    (case a10 => k_is); (case l10 => k_is); (case c10 => k_is); (case k10 => k_is); (case a11 => k_is); (case l11 => k_is)
    (case c11 => k_is); (case k11 => k_is); (case a12 => k_is); (case l12 => k_is); (case c12 => k_is); (case k12 => k_is)
    (case a13 => k_is); (case l13 => k_is); (case c13 => k_is); (case k13 => k_is); (case a14 => k_is); (case l14 => k_is)
    (case c14 => k_is); (case k14 => k_is); (case a15 => k_is); (case l15 => k_is); (case c15 => k_is); (case k15 => k_is)
    (case a16 => k_is); (case l16 => k_is); (case c16 => k_is); (case k16 => k_is); (case a17 => k_is); (case l17 => k_is)
    (case c17 => k_is); (case k17 => k_is); (case a18 => k_is); (case l18 => k_is); (case c18 => k_is); (case k18 => k_is)
    (case a19 => k_is); (case l19 => k_is); (case c19 => k_is); (case k19 => k_is); (case z_len => k_is); (case z_abs => k_is)
    (case z_repr => k_is); (case z_isinstance => k_is); (case z_int => k_is); (case z_list => k_is); (case z_tuple => k_is); (case z_str => k_is)
    (case z_bool => k_is); (case z_dict => k_is); (case z_range => k_is); (case z_enumerate => k_is); (case z_zip => k_is); (case z_sorted => k_is)
    (case z_any => k_is); (case z_all => k_is); (case z_set => k_is); (case z_min => k_is); (case z_max => k_is); (case z_sum => k_is)
    (case z_reversed => k_is); (case te_is_safe => rfl); (case tq_is_safe => k_is); (case tz_is_safe => rfl)
  case Tb =>
    intro w
    refine DX.tabFits_mk ⟨?tt0, ?tt1, ?tt2, ?tt3, ?tt4, ?tt5, ?tt6, ?tt7⟩
    · refine' DX.tabFit_def ?qa ?ql ?qe ?qz ?qp ?qh ?qn
      (case qa => k_is); (case ql => k_is); (case qe => rfl); (case qz => k_is); (case qp => rfl); (case qh => rfl); (case qn => kernel_rfl)
    · exact DX.tabFit_none' (by k_is)
    · exact DX.tabFit_none' (by k_is)
    · exact DX.tabFit_none' (by k_is)
    · exact DX.tabFit_none' (by k_is)
    · exact DX.tabFit_none' (by k_is)
    · exact DX.tabFit_none' (by k_is)
    · exact DX.tabFit_none' (by k_is)
