import PyProof.Rows.All
import Wide.All
import OpenK.AllK
import Wide.FinOn
import HandS.ForMost
import HandS.ForExc
import HandS.TryOnly
import HandS.TryMany
import HandS.IsInst
import HandS.ExcIs
import HandS.ExcInit
import HandS.ExcField
import HandS.Flow
import HandS.Style
import HandS.TupAny
import HandS.Wide
import HandS.WideBits
import HandS.Walk
import HandS.RevRange
import HandS.Rev
import HandS.SortInts
import HandS.Text
import HandS.StrMore
import HandS.Ends
import HandS.TupLe
import PySem.Challenge.RW_fourtouch_k01_doubles_and_relations
set_option Elab.async false
set_option linter.all false
set_option maxRecDepth 100000
set_option maxHeartbeats 0
/-! A layer of plain data over the hand layer: what a def makes of data (D), as a function; a derivation a def. -/
namespace DL
open PySem L2

/-- plain data. new: a list just made; bor: a list that is still the def's own; both stand outermost alone -/
inductive D where
  | non | bl (b : Bool) | int (i : Int) | str (s : Str)
  | lst (ds : List D) | tup (ds : List D) | frz (ns : List Int)
  | obj (C : Addr) (fs : List (Str × D))
  | new (ds : List D) | bor (ds : List D)

mutual
inductive Rp (K : PySem.W.Frag) (H : Hp) : V → D → Prop
  | non : Rp K H .non .non
  | bl (b : Bool) : Rp K H (.bl b) (.bl b)
  | int (i : Int) : Rp K H (.int i) (.int i)
  | str (s : Str) : Rp K H (.str s) (.str s)
  | lst {a : Addr} {xs : List V} {ds : List D} : H a = some (.lst xs) → RpAll K H xs ds → Rp K H (.ref a) (.lst ds)
  | tup {a : Addr} {xs : List V} {ds : List D} : SqT K H a xs → RpAll K H xs ds → Rp K H (.ref a) (.tup ds)
  | frz {a : Addr} {ns : List Int} : SqL K H a (ns.map V.int) → Rp K H (.ref a) (.frz ns)
  | obj {a C dx : Addr} {vs : List (Str × V)} {fs : List (Str × D)} : H a = some (.ins C dx vs) → RpF K H vs fs → Rp K H (.ref a) (.obj C fs)
inductive RpAll (K : PySem.W.Frag) (H : Hp) : List V → List D → Prop
  | nil : RpAll K H [] []
  | cons {v : V} {vs : List V} {d : D} {ds : List D} : Rp K H v d → RpAll K H vs ds → RpAll K H (v :: vs) (d :: ds)
inductive RpF (K : PySem.W.Frag) (H : Hp) : List (Str × V) → List (Str × D) → Prop
  | nil : RpF K H [] []
  | cons {f : Str} {v : V} {vs : List (Str × V)} {d : D} {ds : List (Str × D)} : Rp K H v d → RpF K H vs ds → RpF K H ((f, v) :: vs) ((f, d) :: ds)
end

theorem Same.seqT {K : PySem.W.Frag} {H H' : Hp} {a : Addr} {xs : List V} (e : Same H H') (h : SqT K H a xs) : SqT K H' a xs := by
  rcases h with h | h
  · rcases h with h | ⟨o, h⟩
    · exact .inl (.inl (e _ _ h))
    · exact .inl (.inr ⟨o, e _ _ h⟩)
  · exact .inr h
section
variable {K : PySem.W.Frag} {H H' : Hp}
mutual
theorem Rp.mono (m : Same H H') : ∀ {v : V} {d : D}, Rp K H v d → Rp K H' v d
  | _, _, .non => .non
  | _, _, .bl b => .bl b
  | _, _, .int i => .int i
  | _, _, .str s => .str s
  | _, _, .lst h r => .lst (m _ _ h) (RpAll.mono m r)
  | _, _, .tup h r => .tup (Same.seqT m h) (RpAll.mono m r)
  | _, _, .frz h => .frz (m.seq h)
  | _, _, .obj h r => .obj (m _ _ h) (RpF.mono m r)
theorem RpAll.mono (m : Same H H') : ∀ {vs : List V} {ds : List D}, RpAll K H vs ds → RpAll K H' vs ds
  | _, _, .nil => .nil
  | _, _, .cons h r => .cons (Rp.mono m h) (RpAll.mono m r)
theorem RpF.mono (m : Same H H') : ∀ {vs : List (Str × V)} {ds : List (Str × D)}, RpF K H vs ds → RpF K H' vs ds
  | _, _, .nil => .nil
  | _, _, .cons h r => .cons (Rp.mono m h) (RpF.mono m r)
end
theorem RpAll.length : ∀ {vs : List V} {ds : List D}, RpAll K H vs ds → vs.length = ds.length
  | _, _, .nil => rfl
  | _, _, .cons _ r => by rw [List.length_cons, List.length_cons, RpAll.length r]
theorem RpAll.get : ∀ {vs : List V} {ds : List D} {i : Nat} {d : D}, RpAll K H vs ds → ds[i]? = some d → ∃ v, vs[i]? = some v ∧ Rp K H v d
  | _, _, _, _, .nil, e => by simp at e
  | _, _, 0, _, .cons h _, e => by simp at e; subst e; exact ⟨_, rfl, h⟩
  | _, _, i + 1, _, .cons _ r, e => by
    obtain ⟨v, h1, h2⟩ := RpAll.get (i := i) r (by simpa using e)
    exact ⟨v, by simpa using h1, h2⟩
theorem RpAll.get' : ∀ {vs : List V} {ds : List D} {i : Nat} {v : V}, RpAll K H vs ds → vs[i]? = some v → ∃ d, ds[i]? = some d ∧ Rp K H v d
  | _, _, _, _, .nil, e => by simp at e
  | _, _, 0, _, .cons h _, e => by simp at e; subst e; exact ⟨_, rfl, h⟩
  | _, _, i + 1, _, .cons _ r, e => by
    obtain ⟨d, h1, h2⟩ := RpAll.get' (i := i) r (by simpa using e)
    exact ⟨d, by simpa using h1, h2⟩
theorem RpAll.append : ∀ {vs ws : List V} {ds es : List D}, RpAll K H vs ds → RpAll K H ws es → RpAll K H (vs ++ ws) (ds ++ es)
  | _, _, _, _, .nil, s => s
  | _, _, _, _, .cons h r, s => .cons h (RpAll.append r s)
theorem RpAll.take : ∀ {vs : List V} {ds : List D} (n : Nat), RpAll K H vs ds → RpAll K H (vs.take n) (ds.take n)
  | _, _, 0, _ => .nil
  | _, _, _ + 1, .nil => .nil
  | _, _, n + 1, .cons h r => .cons h (RpAll.take n r)
theorem RpAll.drop : ∀ {vs : List V} {ds : List D} (n : Nat), RpAll K H vs ds → RpAll K H (vs.drop n) (ds.drop n)
  | _, _, 0, r => r
  | _, _, _ + 1, .nil => .nil
  | _, _, n + 1, .cons _ r => RpAll.drop n r
theorem RpAll.reverse : ∀ {vs : List V} {ds : List D}, RpAll K H vs ds → RpAll K H vs.reverse ds.reverse
  | _, _, .nil => .nil
  | _, _, .cons h r => by
    rw [List.reverse_cons, List.reverse_cons]
    exact RpAll.append (RpAll.reverse r) (.cons h .nil)
theorem RpAll.set {v : V} {d : D} (h : Rp K H v d) : ∀ {vs : List V} {ds : List D} (i : Nat), RpAll K H vs ds → RpAll K H (vs.set i v) (ds.set i d)
  | _, _, _, .nil => .nil
  | _, _, 0, .cons _ r => .cons h r
  | _, _, i + 1, .cons q r => .cons q (RpAll.set h i r)
theorem RpAll.dropLast : ∀ {vs : List V} {ds : List D}, RpAll K H vs ds → RpAll K H vs.dropLast ds.dropLast := fun {vs ds} r => by
  rw [List.dropLast_eq_take, List.dropLast_eq_take, r.length]
  exact r.take _
theorem RpAll.eraseIdx : ∀ {vs : List V} {ds : List D} (i : Nat), RpAll K H vs ds → RpAll K H (vs.eraseIdx i) (ds.eraseIdx i)
  | _, _, _, .nil => by simp only [List.eraseIdx_nil]; exact .nil
  | _, _, 0, .cons _ r => r
  | _, _, i + 1, .cons q r => .cons q (RpAll.eraseIdx i r)
/-- a list of ints -/
theorem RpAll.ints : ∀ {vs : List V} {ns : List Int}, RpAll K H vs (ns.map D.int) → vs = ns.map V.int
  | _, [], .nil => rfl
  | _, n :: r, .cons h q => by
    cases h
    rw [RpAll.ints q]; rfl
theorem RpAll.of_ints : ∀ (ns : List Int), RpAll K H (ns.map V.int) (ns.map D.int)
  | [] => .nil
  | n :: r => .cons (.int n) (RpAll.of_ints r)
theorem RpAll.bls : ∀ {vs : List V} {ns : List Bool}, RpAll K H vs (ns.map D.bl) → vs = ns.map V.bl
  | _, [], .nil => rfl
  | _, n :: r, .cons h q => by
    cases h
    rw [RpAll.bls q]; rfl
theorem RpAll.strs : ∀ {vs : List V} {ns : List Str}, RpAll K H vs (ns.map D.str) → vs = ns.map V.str
  | _, [], .nil => rfl
  | _, n :: r, .cons h q => by
    cases h
    rw [RpAll.strs q]; rfl
theorem RpF.lookup {f : Str} {d : D} : ∀ {vs : List (Str × V)} {fs : List (Str × D)}, RpF K H vs fs → fs.lookup f = some d → ∃ v, vs.lookup f = some v ∧ Rp K H v d
  | _, _, .nil, e => by simp at e
  | _, _, .cons (f := g) h r, e => by
    rw [List.lookup_cons] at e ⊢
    cases q : f == g with
    | true =>
      rw [q] at e
      simp only [Option.some.injEq] at e
      subst e
      exact ⟨_, rfl, h⟩
    | false =>
      rw [q] at e
      exact RpF.lookup r e
theorem RpF.lookup_none {f : Str} : ∀ {vs : List (Str × V)} {fs : List (Str × D)}, RpF K H vs fs → fs.lookup f = none → vs.lookup f = none
  | _, _, .nil, _ => rfl
  | _, _, .cons (f := g) h r, e => by
    rw [List.lookup_cons] at e ⊢
    cases q : f == g with
    | true => rw [q] at e; cases e
    | false => rw [q] at e; exact RpF.lookup_none r e
end

/-- what may be read as a list -/
def D.items : D → Option (List D)
  | .lst ds | .new ds | .bor ds => some ds
  | _ => none
/-- a value that may be read -/
def Rr (K : PySem.W.Frag) (S H : Hp) (v : V) : D → Prop
  | .lst ds | .new ds | .bor ds => ∃ a xs, v = .ref a ∧ H a = some (.lst xs) ∧ RpAll K S xs ds
  | d => Rp K S v d
/-- what an expression leaves: H the heap ahead of it -/
def Rv (K : PySem.W.Frag) (H0 S H : Hp) (v : V) : D → Prop
  | .new ds => ∃ a xs, v = .ref a ∧ H0 a = none ∧ S a = none ∧ H a = some (.lst xs) ∧ RpAll K S xs ds
  | .bor ds => ∃ a xs, v = .ref a ∧ S a = none ∧ H a = some (.lst xs) ∧ RpAll K S xs ds
  | d => Rp K S v d
/-- the stable heap S within H grows -/
structure Ext (S H S' H' : Hp) : Prop where
  ss : Same S S'
  hh : Same H H'
  sh : Same S' H'
  fr : ∀ l, S l = none → H l ≠ none → S' l = none
section
variable {K : PySem.W.Frag} {S H S' H' S'' H'' H0 : Hp} {v : V} {d : D}
theorem Ext.refl (h : Same S H) : Ext S H S H := ⟨Same.refl _, Same.refl _, h, fun _ e _ => e⟩
theorem Ext.trans (a : Ext S H S' H') (b : Ext S' H' S'' H'') : Ext S H S'' H'' :=
  ⟨a.ss.trans b.ss, a.hh.trans b.hh, b.sh, fun l e n => b.fr l (a.fr l e n) fun z => n (a.hh.free z)⟩
/-- a new object, stable at once -/
theorem Ext.mk1 (h : Same S H) {p : Addr} (n : H p = none) (o : HO) : Ext S H (upd S p o) (upd H p o) := by
  have ns : S p = none := h.free n
  refine ⟨fun b u e => ?_, fun b u e => ?_, fun b u e => ?_, fun l e q => ?_⟩
  · rw [upd_ne (ne_of_none e ns)]; exact e
  · rw [upd_ne (ne_of_none e n)]; exact e
  · by_cases hb : b = p
    · subst hb; rw [upd_same] at e ⊢; exact e
    · rw [upd_ne hb] at e ⊢; exact h _ _ e
  · have : l ≠ p := fun z => q (by rw [z]; exact n)
    rw [upd_ne this]; exact e
/-- a new object that stays outside of the stable heap -/
theorem Ext.mk0 (h : Same S H) {p : Addr} (n : H p = none) (o : HO) : Ext S H S (upd H p o) := by
  refine ⟨Same.refl _, fun b u e => ?_, fun b u e => ?_, fun _ e _ => e⟩
  · rw [upd_ne (ne_of_none e n)]; exact e
  · rw [upd_ne (ne_of_none (h _ _ e) n)]; exact h _ _ e
/-- an object outside of the stable heap is taken in, that is new since H -/
theorem Ext.settle (e : Ext S H S' H') {a : Addr} {o : HO} (n : H a = none) (s : S' a = none) (h : H' a = some o) : Ext S H (upd S' a o) H' := by
  refine ⟨fun b u q => ?_, e.hh, fun b u q => ?_, fun l q z => ?_⟩
  · rw [upd_ne (ne_of_none (e.ss _ _ q) s)]; exact e.ss _ _ q
  · by_cases hb : b = a
    · subst hb; rw [upd_same] at q; rw [← q]; exact h
    · rw [upd_ne hb] at q; exact e.sh _ _ q
  · have : l ≠ a := fun y => z (by rw [y]; exact n)
    rw [upd_ne this]; exact e.fr l q z
theorem Rp.rr (h : Same S H) (r : Rp K S v d) : Rr K S H v d := by
  cases d with
  | lst ds => cases r with | lst q r => exact ⟨_, _, rfl, h _ _ q, r⟩
  | new ds => cases r
  | bor ds => cases r
  | _ => exact r
theorem Rv.rr (h : Same S H) (r : Rv K H0 S H v d) : Rr K S H v d := by
  cases d with
  | lst ds => exact Rp.rr h r
  | new ds => obtain ⟨a, xs, h1, h2, h3, h4, h5⟩ := r; exact ⟨a, xs, h1, h4, h5⟩
  | bor ds => obtain ⟨a, xs, h1, h2, h4, h5⟩ := r; exact ⟨a, xs, h1, h4, h5⟩
  | _ => exact r
theorem Rr.mono (e1 : Same S S') (e2 : Same H H') (r : Rr K S H v d) : Rr K S' H' v d := by
  cases d with
  | lst ds => obtain ⟨a, xs, h1, h2, h3⟩ := r; exact ⟨a, xs, h1, e2 _ _ h2, h3.mono e1⟩
  | new ds => obtain ⟨a, xs, h1, h2, h3⟩ := r; exact ⟨a, xs, h1, e2 _ _ h2, h3.mono e1⟩
  | bor ds => obtain ⟨a, xs, h1, h2, h3⟩ := r; exact ⟨a, xs, h1, e2 _ _ h2, h3.mono e1⟩
  | _ => exact Rp.mono e1 r
theorem Rr.items {ds : List D} (r : Rr K S H v d) (e : d.items = some ds) : ∃ a xs, v = .ref a ∧ H a = some (.lst xs) ∧ RpAll K S xs ds := by
  cases d with
  | lst es => cases e; exact r
  | new es => cases e; exact r
  | bor es => cases e; exact r
  | _ => cases e
end

/-! ### slots -/
inductive Slot where
  | un
  | v (d : D)
  | own (ds : List D)
  | exc (a : Addr)
abbrev Rho := List Slot
def SlotOk (K : PySem.W.Frag) (S H0 H : Hp) (x : Option V) : Slot → Prop
  | .un => True
  | .v d => ∃ v, x = some v ∧ Rp K S v d
  | .own ds => ∃ l xs, x = some (.ref l) ∧ H0 l = none ∧ S l = none ∧ H l = some (.lst xs) ∧ RpAll K S xs ds
  | .exc a => x = some (.ref a)
/-- the slots σ and the heap H bear the data ρ; S0, H0: at the def's entry; S: what stays -/
structure Rel (K : PySem.W.Frag) (S0 H0 S H : Hp) (σ : St) (ρ : Rho) : Prop where
  ex : Ext S0 H0 S H
  len : σ.length = ρ.length
  at_ : ∀ (i : Nat) (s : Slot), ρ[i]? = some s → ∃ x, σ[i]? = some x ∧ SlotOk K S H0 H x s
  dis : ∀ (i j : Nat) (l : Addr) (ds es : List D), i ≠ j → ρ[i]? = some (.own ds) → ρ[j]? = some (.own es) → σ[i]? = some (some (.ref l)) → σ[j]? = some (some (.ref l)) → False
section
variable {K : PySem.W.Frag} {S0 H0 S H S' H' : Hp} {σ : St} {ρ : Rho}
theorem Rel.sh (R : Rel K S0 H0 S H σ ρ) : Same S H := R.ex.sh
theorem SlotOk.ext {x : Option V} {s : Slot} (e : Ext S H S' H') (h : SlotOk K S H0 H x s) : SlotOk K S' H0 H' x s := by
  cases s with
  | un => trivial
  | exc a => exact h
  | v d => obtain ⟨v, h1, h2⟩ := h; exact ⟨v, h1, h2.mono e.ss⟩
  | own ds =>
    obtain ⟨l, xs, h1, h2, h3, h4, h5⟩ := h
    exact ⟨l, xs, h1, h2, e.fr l h3 (by rw [h4]; exact fun z => by cases z), e.hh _ _ h4, h5.mono e.ss⟩
theorem Rel.ext (R : Rel K S0 H0 S H σ ρ) (e : Ext S H S' H') : Rel K S0 H0 S' H' σ ρ :=
  ⟨R.ex.trans e, R.len, fun i s h => by
    obtain ⟨x, h1, h2⟩ := R.at_ i s h
    exact ⟨x, h1, h2.ext e⟩, R.dis⟩
/-- a slot is set to a stable value (or one that is forgotten) -/
theorem Rel.set (R : Rel K S0 H0 S H σ ρ) {i : Nat} {v : V} {s : Slot} (h : SlotOk K S H0 H (some v) s) (no : ∀ ds, s ≠ .own ds) : Rel K S0 H0 S H (σ.set i (some v)) (ρ.set i s) := by
  refine ⟨R.ex, by rw [List.length_set, List.length_set]; exact R.len, fun j s' e => ?_, fun j k l ds es n e1 e2 e3 e4 => ?_⟩
  · by_cases hj : i = j
    · subst hj
      have hl : i < ρ.length := by
        have := (List.getElem?_eq_some_iff.mp e).1
        rwa [List.length_set] at this
      rw [List.getElem?_set_self hl] at e
      cases e
      exact ⟨_, List.getElem?_set_self (by rw [R.len]; exact hl), h⟩
    · rw [List.getElem?_set_ne hj] at e ⊢
      exact R.at_ j s' e
  · have f : ∀ {m : Nat} {fs : List D}, (ρ.set i s)[m]? = some (.own fs) → i ≠ m := fun {m fs} e z => by
      subst z
      have hl : i < ρ.length := by
        have := (List.getElem?_eq_some_iff.mp e).1
        rwa [List.length_set] at this
      rw [List.getElem?_set_self hl] at e
      cases e
      exact no _ rfl
    have hj := f e1
    have hk := f e2
    rw [List.getElem?_set_ne hj] at e1 e3
    rw [List.getElem?_set_ne hk] at e2 e4
    exact R.dis j k l ds es n e1 e2 e3 e4
/-- a slot is set to a new list of the def's own -/
theorem Rel.setOwn (R : Rel K S0 H0 S H σ ρ) {i : Nat} {a : Addr} {xs : List V} {ds : List D} (h0 : H0 a = none) (hs : S a = none) (hh : H a = some (.lst xs)) (r : RpAll K S xs ds)
    (nw : ∀ (j : Nat) (es : List D), ρ[j]? = some (.own es) → σ[j]? = some (some (.ref a)) → i = j) : Rel K S0 H0 S H (σ.set i (some (.ref a))) (ρ.set i (.own ds)) := by
  refine ⟨R.ex, by rw [List.length_set, List.length_set]; exact R.len, fun j s' e => ?_, fun j k l fs es n e1 e2 e3 e4 => ?_⟩
  · by_cases hj : i = j
    · subst hj
      have hl : i < ρ.length := by
        have := (List.getElem?_eq_some_iff.mp e).1
        rwa [List.length_set] at this
      rw [List.getElem?_set_self hl] at e
      cases e
      exact ⟨_, List.getElem?_set_self (by rw [R.len]; exact hl), a, xs, rfl, h0, hs, hh, r⟩
    · rw [List.getElem?_set_ne hj] at e ⊢
      exact R.at_ j s' e
  · by_cases hj : i = j
    · have hk : i ≠ k := fun z => n (hj ▸ z)
      subst hj
      have hl : i < σ.length := by
        have := (List.getElem?_eq_some_iff.mp e3).1
        rwa [List.length_set] at this
      rw [List.getElem?_set_self hl] at e3
      cases e3
      rw [List.getElem?_set_ne hk] at e2 e4
      exact hk (nw k es e2 e4)
    · by_cases hk : i = k
      · subst hk
        have hl : i < σ.length := by
          have := (List.getElem?_eq_some_iff.mp e4).1
          rwa [List.length_set] at this
        rw [List.getElem?_set_self hl] at e4
        cases e4
        rw [List.getElem?_set_ne hj] at e1 e3
        exact hj (nw j fs e1 e3)
      · rw [List.getElem?_set_ne hj] at e1 e3
        rw [List.getElem?_set_ne hk] at e2 e4
        exact R.dis j k l fs es n e1 e2 e3 e4
/-- the own list of a slot is changed -/
theorem Rel.upd (R : Rel K S0 H0 S H σ ρ) {i : Nat} {l : Addr} {xs : List V} {ds ds' : List D} (hi : ρ[i]? = some (.own ds)) (hσ : σ[i]? = some (some (.ref l))) (r : RpAll K S xs ds') :
    Rel K S0 H0 S (upd H l (.lst xs)) σ (ρ.set i (.own ds')) := by
  obtain ⟨x, h1, l', ys, h2, h3, h4, h5, h6⟩ := R.at_ i _ hi
  rw [hσ] at h1
  cases h1
  cases h2
  have hl : i < ρ.length := (List.getElem?_eq_some_iff.mp hi).1
  refine ⟨⟨R.ex.ss, fun b u e => ?_, fun b u e => ?_, R.ex.fr⟩, by rw [List.length_set]; exact R.len, fun j s' e => ?_, fun j k m fs es n e1 e2 e3 e4 => ?_⟩
  · rw [upd_ne (ne_of_none e h3)]; exact R.ex.hh _ _ e
  · rw [upd_ne (ne_of_none e h4)]; exact R.ex.sh _ _ e
  · by_cases hj : i = j
    · subst hj
      rw [List.getElem?_set_self hl] at e
      cases e
      exact ⟨_, hσ, l, xs, rfl, h3, h4, upd_same, r⟩
    · rw [List.getElem?_set_ne hj] at e
      obtain ⟨x, g1, g2⟩ := R.at_ j s' e
      refine ⟨x, g1, ?_⟩
      cases s' with
      | un => trivial
      | exc a => exact g2
      | v d => exact g2
      | own es =>
        obtain ⟨m, zs, k1, k2, k3, k4, k5⟩ := g2
        refine ⟨m, zs, k1, k2, k3, ?_, k5⟩
        have : m ≠ l := fun z => R.dis i j l ds es hj hi e hσ (by rw [g1, k1, z])
        rw [upd_ne this]; exact k4
  · have f : ∀ {m : Nat} {fs : List D}, (ρ.set i (.own ds'))[m]? = some (.own fs) → ∃ gs, ρ[m]? = some (.own gs) := fun {m fs} e => by
      by_cases hm : i = m
      · subst hm; exact ⟨ds, hi⟩
      · rw [List.getElem?_set_ne hm] at e; exact ⟨_, e⟩
    obtain ⟨gs, q1⟩ := f e1
    obtain ⟨gs', q2⟩ := f e2
    exact R.dis j k m gs gs' n q1 q2 e3 e4
/-- the own list of a slot is kept as it is from now on -/
theorem Rel.freeze (R : Rel K S0 H0 S H σ ρ) {i : Nat} {ds : List D} (hi : ρ[i]? = some (.own ds)) : ∃ S', Rel K S0 H0 S' H σ (ρ.set i (.v (.lst ds))) ∧ Same S S' := by
  obtain ⟨x, h1, l, xs, h2, h3, h4, h5, h6⟩ := R.at_ i _ hi
  subst h2
  have hl : i < ρ.length := (List.getElem?_eq_some_iff.mp hi).1
  have ss : Same S (L2.upd S l (.lst xs)) := fun b u e => by rw [upd_ne (ne_of_none e h4)]; exact e
  refine ⟨L2.upd S l (.lst xs), ⟨⟨R.ex.ss.trans ss, R.ex.hh, fun b u e => ?_, fun m e n => ?_⟩, by rw [List.length_set]; exact R.len, fun j s' e => ?_, fun j k m fs es n e1 e2 e3 e4 => ?_⟩, ss⟩
  · by_cases hb : b = l
    · subst hb; rw [upd_same] at e; rw [← e]; exact h5
    · rw [upd_ne hb] at e; exact R.ex.sh _ _ e
  · have : m ≠ l := fun z => n (by rw [z]; exact h3)
    rw [upd_ne this]; exact R.ex.fr m e n
  · by_cases hj : i = j
    · subst hj
      rw [List.getElem?_set_self hl] at e
      cases e
      exact ⟨_, h1, _, rfl, .lst upd_same (h6.mono ss)⟩
    · rw [List.getElem?_set_ne hj] at e
      obtain ⟨x, g1, g2⟩ := R.at_ j s' e
      refine ⟨x, g1, ?_⟩
      cases s' with
      | un => trivial
      | exc a => exact g2
      | v d => obtain ⟨v, k1, k2⟩ := g2; exact ⟨v, k1, k2.mono ss⟩
      | own es =>
        obtain ⟨m, zs, k1, k2, k3, k4, k5⟩ := g2
        have : m ≠ l := fun z => R.dis i j l ds es hj hi e h1 (by rw [g1, k1, z])
        exact ⟨m, zs, k1, k2, by rw [upd_ne this]; exact k3, k4, k5.mono ss⟩
  · have f : ∀ {m : Nat} {fs : List D}, (ρ.set i (.v (.lst ds)))[m]? = some (.own fs) → ρ[m]? = some (.own fs) := fun {m fs} e => by
      by_cases hm : i = m
      · subst hm; rw [List.getElem?_set_self hl] at e; cases e
      · rw [List.getElem?_set_ne hm] at e; exact e
    exact R.dis j k m fs es n (f e1) (f e2) e3 e4
theorem Rel.weak (R : Rel K S0 H0 S H σ ρ) {ρ' : Rho} (hl : ρ'.length = ρ.length) (w : ∀ (i : Nat) (s : Slot), ρ'[i]? = some s → s = .un ∨ ρ[i]? = some s) : Rel K S0 H0 S H σ ρ' := by
  refine ⟨R.ex, by rw [hl]; exact R.len, fun i s e => ?_, fun i j l ds es n e1 e2 e3 e4 => ?_⟩
  · rcases w i s e with rfl | q
    · have hi : i < σ.length := by
        have := (List.getElem?_eq_some_iff.mp e).1
        rw [R.len, ← hl]; exact this
      exact ⟨σ[i], List.getElem?_eq_getElem hi, trivial⟩
    · exact R.at_ i s q
  · have f : ∀ {m : Nat} {fs : List D}, ρ'[m]? = some (.own fs) → ρ[m]? = some (.own fs) := fun {m fs} e => by
      rcases w m _ e with q | q
      · cases q
      · exact q
    exact R.dis i j l ds es n (f e1) (f e2) e3 e4
end
end DL

namespace DL
open PySem L2

/-- an error: its class, what its own dict holds (where it has one) -/
structure Ex where
  cls : Value
  fs : Option (List (Str × V))
inductive Res (α : Type) where
  | ok (a : α)
  | err (x : Ex)
  | st
def Res.bind {α β : Type} (r : Res α) (f : α → Res β) : Res β := match r with
  | .ok a => f a
  | .err x => .err x
  | .st => .st
def ofO {α : Type} : Option α → Res α
  | some a => .ok a
  | none => .st
@[simp] theorem bind_ok {α β : Type} (a : α) (f : α → Res β) : (Res.ok a).bind f = f a := rfl
@[simp] theorem bind_err {α β : Type} (x : Ex) (f : α → Res β) : (Res.err x).bind f = .err x := rfl
@[simp] theorem bind_st {α β : Type} (f : α → Res β) : (Res.st).bind f = .st := rfl
@[simp] theorem ofO_some {α : Type} (a : α) : ofO (some a) = .ok a := rfl
@[simp] theorem ofO_none {α : Type} : ofO (none : Option α) = .st := rfl
abbrev Ev := Rho → Res D
def XAt (x : Ex) (dd : Option Addr) (H : Hp) : Prop := match x.fs with
  | none => dd = none
  | some fs => ∃ a, dd = some a ∧ H a = some (.xd fs)
/-- what an error that leaves must meet -/
def PostX (W : WX) (S H : Hp) (σ : St) (x : Ex) : Prop := ∀ dd S' H', Ext S H S' H' → XAt x dd H' → W x.cls dd σ H'
def PostD (K : PySem.W.Frag) (W : WX) (S H : Hp) (σ : St) (r : Res D) (Q : VK) : Prop := match r with
  | .ok d => ∀ v S' H', Ext S H S' H' → Rv K H S' H' v d → Q v H'
  | .err x => PostX W S H σ x
  | .st => False
def PostO (K : PySem.W.Frag) (S H : Hp) (r : Option D) (Q : VK) : Prop := match r with
  | some d => ∀ v S' H', Ext S H S' H' → Rv K H S' H' v d → Q v H'
  | none => False
def PostB (W : WX) (S H : Hp) (σ : St) (r : Res Bool) (Q : Bool → Hp → Prop) : Prop := match r with
  | .ok b => ∀ S' H', Ext S H S' H' → Q b H'
  | .err x => PostX W S H σ x
  | .st => False
def PostA (K : PySem.W.Frag) (W : WX) (S H : Hp) (σ : St) (r : Res (List D)) (Q : List V → Hp → Prop) : Prop := match r with
  | .ok ds => ∀ vs S' H', Ext S H S' H' → RpAll K S' vs ds → Q vs H'
  | .err x => PostX W S H σ x
  | .st => False
def T (K : PySem.W.Frag) (W : WX) (f : Ev) : TE := fun σ H Q => ∃ S0 H0 S ρ, Rel K S0 H0 S H σ ρ ∧ PostD K W S H σ (f ρ) Q
def TB (K : PySem.W.Frag) (W : WX) (f : Rho → Res Bool) : TT := fun σ H Q => ∃ S0 H0 S ρ, Rel K S0 H0 S H σ ρ ∧ PostB W S H σ (f ρ) Q
def TAs (K : PySem.W.Frag) (W : WX) (f : Rho → Res (List D)) : TA := fun σ H Q => ∃ S0 H0 S ρ, Rel K S0 H0 S H σ ρ ∧ PostA K W S H σ (f ρ) Q
section
variable {K : PySem.W.Frag} {W : WX} {S H S' H' H1 : Hp} {σ : St} {x : Ex} {v : V} {d : D}
theorem Rv.pre (m : Same H1 H) (r : Rv K H S' H' v d) : Rv K H1 S' H' v d := by
  cases d with
  | new ds => obtain ⟨a, xs, h1, h2, h3, h4, h5⟩ := r; exact ⟨a, xs, h1, m.free h2, h3, h4, h5⟩
  | _ => exact r
theorem PostX.ext (p : PostX W S H σ x) (e : Ext S H S' H') : PostX W S' H' σ x := fun dd S2 H2 e2 h => p dd S2 H2 (e.trans e2) h
theorem PostD.ext {r : Res D} {Q : VK} (p : PostD K W S H σ r Q) (e : Ext S H S' H') : PostD K W S' H' σ r Q := by
  cases r with
  | ok d => exact fun v S2 H2 e2 h => p v S2 H2 (e.trans e2) (h.pre e.hh)
  | err x => exact PostX.ext p e
  | st => exact p
theorem PostB.ext {r : Res Bool} {Q : Bool → Hp → Prop} (p : PostB W S H σ r Q) (e : Ext S H S' H') : PostB W S' H' σ r Q := by
  cases r with
  | ok d => exact fun S2 H2 e2 => p S2 H2 (e.trans e2)
  | err x => exact PostX.ext p e
  | st => exact p
theorem PostA.ext {r : Res (List D)} {Q : List V → Hp → Prop} (p : PostA K W S H σ r Q) (e : Ext S H S' H') : PostA K W S' H' σ r Q := by
  cases r with
  | ok d => exact fun vs S2 H2 e2 h => p vs S2 H2 (e.trans e2) h
  | err x => exact PostX.ext p e
  | st => exact p
theorem PostO.ext {r : Option D} {Q : VK} (p : PostO K S H r Q) (e : Ext S H S' H') : PostO K S' H' r Q := by
  cases r with
  | some d => exact fun v S2 H2 e2 h => p v S2 H2 (e.trans e2) (h.pre e.hh)
  | none => exact p
theorem PostD.o {r : Option D} {Q : VK} (p : PostD K W S H σ (ofO r) Q) : PostO K S H r Q := by
  cases r <;> exact p
end
theorem PE.imp {X : Cx} {e : Expr} {t t' : TE} (h : PE X e t) (hi : ∀ σ H Q, t' σ H Q → t σ H Q) : PE X e t' := ⟨fun pins s σ H Q I q => h.run pins s σ H Q I (hi _ _ _ q)⟩
theorem PT.imp {X : Cx} {e : Expr} {t t' : TT} (h : PT X e t) (hi : ∀ σ H Q, t' σ H Q → t σ H Q) : PT X e t' := ⟨fun pins s σ H Q I q => h.run pins s σ H Q I (hi _ _ _ q)⟩
theorem PW.imp {X : Cx} {e : Expr} {t t' : TT} (h : PW X e t) (hi : ∀ σ H Q, t' σ H Q → t σ H Q) : PW X e t' := ⟨fun w pins s σ H Q I q => h.run w pins s σ H Q I (hi _ _ _ q)⟩
theorem PA.imp {X : Cx} {es : List Expr} {t t' : TA} (h : PA X es t) (hi : ∀ σ H Q, t' σ H Q → t σ H Q) : PA X es t' := ⟨fun pos pins s σ H Q I q => h.run pos pins s σ H Q I (hi _ _ _ q)⟩
theorem PS.imp {X : Cx} {st : Stmt} {t t' : TS} (h : PS X st t) (hi : ∀ D σ H, t' D σ H → t D σ H) : PS X st t' := ⟨fun pins s σ H D I q => h.run pins s σ H D I (hi _ _ _ q)⟩
theorem PSs.imp {X : Cx} {st : List Stmt} {t t' : TS} (h : PSs X st t) (hi : ∀ D σ H, t' D σ H → t D σ H) : PSs X st t' := ⟨fun pins s σ H D I q => h.run pins s σ H D I (hi _ _ _ q)⟩
theorem PG.imp {X : Cx} {e : Expr} {t t' : TG} (h : PG X e t) (hi : ∀ v σ H Q, t' v σ H Q → t v σ H Q) : PG X e t' := ⟨fun pins s σ H v u Q I r q => h.run pins s σ H v u Q I r (hi _ _ _ _ q)⟩

/-! ### operators by values -/
def e1 (g : D → Option D) (fa : Ev) : Ev := fun ρ => (fa ρ).bind fun x => ofO (g x)
def e2 (g : D → D → Option D) (fa fb : Ev) : Ev := fun ρ => (fa ρ).bind fun x => (fb ρ).bind fun y => ofO (g x y)
/-- r serves g -/
def Serves2 (K : PySem.W.Frag) (g : D → D → Option D) (r : R2) : Prop :=
  ∀ (S H : Hp) (v w : V) (dx dy : D) (Q : VK), Same S H → Rr K S H v dx → Rr K S H w dy → PostO K S H (g dx dy) Q → r v w H Q
def Serves1 (K : PySem.W.Frag) (g : D → Option D) (r : V → Hp → VK → Prop) : Prop :=
  ∀ (S H : Hp) (v : V) (dx : D) (Q : VK), Same S H → Rr K S H v dx → PostO K S H (g dx) Q → r v H Q
section
variable {X : Cx} {W : WX} {a b : Expr} {fa fb : Ev} {pos : Pos}
theorem t_e1 {K : PySem.W.Frag} {g : D → Option D} {r : V → Hp → VK → Prop} (hg : Serves1 K g r) {σ : St} {H : Hp} {Q : VK} (h : T K W (e1 g fa) σ H Q) : T K W fa σ H fun x H1 => r x H1 Q := by
  obtain ⟨S0, H0, S, ρ, R, p⟩ := h
  refine ⟨S0, H0, S, ρ, R, ?_⟩
  unfold e1 at p
  cases e : fa ρ with
  | ok d =>
    rw [e] at p
    exact fun v S' H' ex r => hg S' H' v d Q ex.sh (r.rr ex.sh) (PostD.o (p.ext ex))
  | err x => rw [e] at p; exact p
  | st => rw [e] at p; exact p
theorem t_e2 {K : PySem.W.Frag} {g : D → D → Option D} {r : R2} (hg : Serves2 K g r) {σ : St} {H : Hp} {Q : VK} (h : T K W (e2 g fa fb) σ H Q) : tOp r (T K W fa) (T K W fb) σ H Q := by
  obtain ⟨S0, H0, S, ρ, R, p⟩ := h
  refine ⟨S0, H0, S, ρ, R, ?_⟩
  unfold e2 at p
  cases e : fa ρ with
  | ok d =>
    rw [e] at p
    refine fun v S1 H1 e1 r1 => ⟨S0, H0, S1, ρ, R.ext e1, ?_⟩
    have p1 := p.ext e1
    cases eb : fb ρ with
    | ok d2 =>
      simp only [bind_ok, eb] at p1
      exact fun w S2 H2 e2 r2 => hg S2 H2 v w d d2 Q e2.sh ((r1.rr e1.sh).mono e2.ss e2.hh) (r2.rr e2.sh) (PostD.o (p1.ext e2))
    | err x => simp only [bind_ok, eb] at p1; exact p1
    | st => simp only [bind_ok, eb] at p1; exact p1
  | err x => rw [e] at p; exact p
  | st => rw [e] at p; exact p
theorem d_op {op : Operator} {r : R2} {g : D → D → Option D} (ho : OpR X (binaryOp op) r) (hg : Serves2 X.K g r) (ha : PE X a (T X.K W fa)) (hb : PE X b (T X.K W fb)) : PE X (.BinOp a op b pos) (T X.K W (e2 g fa fb)) :=
  PE.imp (pe_op ho ha hb) fun _ _ _ h => t_e2 hg h
theorem d_cmp {op : CmpOp} {r : R2} {g : D → D → Option D} (ho : OpR X (compareOp op) r) (hg : Serves2 X.K g r) (hm : behindInMarks op b = false) (ha : PE X a (T X.K W fa)) (hb : PE X b (T X.K W fb)) : PE X (.Compare a [op] [b] pos) (T X.K W (e2 g fa fb)) :=
  PE.imp (pe_cmpR ho ha hb hm) fun _ _ _ h => t_e2 hg h
theorem d_un {op : UnaryOp} {r : V → Hp → VK → Prop} {g : D → Option D} (ho : UnR X (unaryOp op) r) (hg : Serves1 X.K g r) (ha : PE X a (T X.K W fa)) : PE X (.UnaryOp op a pos) (T X.K W (e1 g fa)) :=
  PE.imp (pe_un ho ha) fun _ _ _ h => t_e1 hg h
end
/-- a value is laid for good -/
def D.settle : D → Option D
  | .new ds => some (.lst ds)
  | .bor _ => none
  | d => some d
def stE (f : Ev) : Ev := e1 D.settle f
section
variable {K : PySem.W.Frag} {W : WX} {f : Ev} {σ : St} {H : Hp} {Q : VK}
theorem t_stE (h : T K W (stE f) σ H Q) : T K W f σ H Q := by
  obtain ⟨S0, H0, S, ρ, R, p⟩ := h
  refine ⟨S0, H0, S, ρ, R, ?_⟩
  unfold stE e1 at p
  cases e : f ρ with
  | ok d =>
    rw [e] at p
    cases d with
    | new ds =>
      intro v S' H' ex r
      obtain ⟨a, xs, h1, h2, h3, h4, h5⟩ := r
      subst h1
      have ss : Same S' (upd S' a (.lst xs)) := fun b u q => by rw [upd_ne (ne_of_none q h3)]; exact q
      exact p _ _ _ (ex.settle h2 h3 h4) (.lst upd_same (h5.mono ss))
    | bor ds => exact p.elim
    | _ => exact p
  | err x => rw [e] at p; exact p
  | st => rw [e] at p; exact p
theorem settle_rp {d d' : D} (e : d.settle = some d') {S' H' : Hp} {v : V} (r : Rv K H S' H' v d') : Rp K S' v d' := by
  cases d with
  | new ds => cases e; exact r
  | bor ds => cases e
  | _ => cases e; exact r
end

/-! ### names, constants -/
def varE (i : Nat) : Ev := fun ρ => match ρ[i]? with
  | some (.v d) => .ok d
  | some (.own ds) => .ok (.bor ds)
  | _ => .st
def cE (d : D) : Ev := fun _ => .ok d
section
variable {X : Cx} {W : WX} {pos : Pos}
theorem t_var {i : Nat} {K : PySem.W.Frag} {σ : St} {H : Hp} {Q : VK} (h : T K W (varE i) σ H Q) : tVar i σ H Q := by
  obtain ⟨S0, H0, S, ρ, R, p⟩ := h
  unfold varE at p
  cases e : ρ[i]? with
  | none => rw [e] at p; exact p.elim
  | some s =>
    rw [e] at p
    obtain ⟨x, h1, h2⟩ := R.at_ i s e
    cases s with
    | un => exact p.elim
    | exc a => exact p.elim
    | v d =>
      obtain ⟨v, rfl, h3⟩ := h2
      refine ⟨v, h1, p v S H (Ext.refl R.sh) ?_⟩
      cases d with
      | new ds => cases h3
      | bor ds => cases h3
      | _ => exact h3
    | own ds =>
      obtain ⟨l, xs, rfl, h3, h4, h5, h6⟩ := h2
      exact ⟨_, h1, p _ S H (Ext.refl R.sh) ⟨l, xs, rfl, h4, h5, h6⟩⟩
theorem d_var {i : Nat} {x : Str} (hN : X.N[i]? = some x) (hv : Vis X.env.scope x) (hd : (x == ("__debug__" : Str)) = false := by decide) (hcd : (x == ("__classdict__" : Str)) = false := by decide) : PE X (.Name x pos) (T X.K W (varE i)) :=
  PE.imp (pe_var hN hv hd hcd) fun _ _ _ h => t_var h
theorem t_c {K : PySem.W.Frag} {d : D} {v : V} (hr : ∀ S H, Rv K S S H v d) {σ : St} {H : Hp} {Q : VK} (hr : ∀ S, Rp K S v d) (h : T K W (cE d) σ H Q) : tC v σ H Q := by
  obtain ⟨S0, H0, S, ρ, R, p⟩ := h
  refine p v S H (Ext.refl R.sh) ?_
  have q := hr S
  cases d with
  | new ds => cases q
  | bor ds => cases q
  | _ => exact q
theorem t_c' {K : PySem.W.Frag} {d : D} {v : V} (hr : ∀ S, Rp K S v d) {σ : St} {H : Hp} {Q : VK} (h : T K W (cE d) σ H Q) : tC v σ H Q := by
  obtain ⟨S0, H0, S, ρ, R, p⟩ := h
  refine p v S H (Ext.refl R.sh) ?_
  have q := hr S
  cases d with
  | new ds => cases q
  | bor ds => cases q
  | _ => exact q
theorem d_int {i : Int} {j : Nat} : PE X (.Constant (.int i) j pos) (T X.K W (cE (.int i))) := PE.imp pe_int fun _ _ _ h => t_c' (fun _ => .int i) h
theorem d_bl {b : Bool} {j : Nat} : PE X (.Constant (.bool b) j pos) (T X.K W (cE (.bl b))) := PE.imp pe_bl fun _ _ _ h => t_c' (fun _ => .bl b) h
theorem d_str {s : Str} {j : Nat} : PE X (.Constant (.str s) j pos) (T X.K W (cE (.str s))) := PE.imp pe_str fun _ _ _ h => t_c' (fun _ => .str s) h
theorem d_non {j : Nat} : PE X (.Constant .none j pos) (T X.K W (cE .non)) := PE.imp pe_non fun _ _ _ h => t_c' (fun _ => .non) h
end

/-! ### arithmetic -/
abbrev LINE : Nat := 16777216
theorem line_eq : sizeLine = LINE := sizeLine_eq
def mulOk (i j : Int) : Prop := ((-(2 ^ 64) < i ∧ i < 2 ^ 64) ∨ (-(2 ^ 64) < j ∧ j < 2 ^ 64)) ∨ (Builtin.Int.intBits i : Int) + (Builtin.Int.intBits j : Int) ≤ 134217728
instance (i j : Int) : Decidable (mulOk i j) := by unfold mulOk; infer_instance
def addD (x y : D) : Option D := match x, y with
  | .int i, .int j => some (.int (i + j))
  | .str i, .str j => if i.length + j.length ≤ LINE then some (.str (i ++ j)) else none
  | .tup xs, .tup ys => if xs.length + ys.length ≤ LINE then some (.tup (xs ++ ys)) else none
  | x, y => match x.items, y.items with
    | some xs, some ys => if xs.length + ys.length ≤ LINE then some (.new (xs ++ ys)) else none
    | _, _ => none
def subD (x y : D) : Option D := match x, y with
  | .int i, .int j => some (.int (i - j))
  | _, _ => none
def mulD (x y : D) : Option D := match x, y with
  | .int i, .int j => if mulOk i j then some (.int (i * j)) else none
  | _, _ => none
def fdivD (x y : D) : Option D := match x, y with
  | .int i, .int j => if 0 < j ∧ j.natAbs.log2 < 9000 then some (.int (i / j)) else if j ≠ 0 ∧ j.natAbs < 1073741824 then some (.int (i.fdiv j)) else none
  | _, _ => none
def modD (x y : D) : Option D := match x, y with
  | .int i, .int j => if 0 < j then some (.int (i % j)) else if j ≠ 0 then some (.int (i.fmod j)) else none
  | _, _ => none
def powD (x y : D) : Option D := match x, y with
  | .int i, .int j => if 0 ≤ j ∧ j ≤ 1000000 ∧ i.natAbs < 2 ^ 64 then some (.int (i ^ j.toNat)) else none
  | _, _ => none
def negD : D → Option D
  | .int i => some (.int (-i))
  | _ => none
section
variable {X : Cx}
def rAddD (K : PySem.W.Frag) : R2 := fun x y H Q => ((rI0 fun i j => .int (i + j)) x y H Q ∨ (∃ i j, x = .str i ∧ y = .str j ∧ i.length + j.length ≤ sizeLine ∧ Q (.str (i ++ j)) H)) ∨ (rCatA K x y H Q ∨ rCat x y H Q)
theorem op_addD : OpR X (binaryOp .Add) (rAddD X.K) := (op_add.or op_add_str).or (op_catA.or op_cat)
theorem PostO.val {K : PySem.W.Frag} {S H : Hp} {d : D} {Q : VK} {v : V} (hs : Same S H) (p : PostO K S H (some d) Q) (r : Rp K S v d) : Q v H := by
  refine p v S H (Ext.refl hs) ?_
  cases d with
  | new ds => cases r
  | bor ds => cases r
  | _ => exact r
/-- a new list -/
theorem PostO.new {K : PySem.W.Frag} {S H : Hp} {ds : List D} {Q : VK} (hs : Same S H) (p : PostO K S H (some (.new ds)) Q) {xs : List V} (r : RpAll K S xs ds) : ∀ q, H q = none → Q (.ref q) (upd H q (.lst xs)) :=
  fun q n => p _ S _ (Ext.mk0 hs n _) ⟨q, xs, rfl, n, hs.free n, upd_same, r⟩
theorem PostO.tup {K : PySem.W.Frag} {S H : Hp} {ds : List D} {Q : VK} (hs : Same S H) (p : PostO K S H (some (.tup ds)) Q) {xs : List V} (r : RpAll K S xs ds) : ∀ q, H q = none → Q (.ref q) (upd H q (.tup xs)) :=
  fun q n => p _ _ _ (Ext.mk1 hs n _) (.tup (SqT.of upd_same) (r.mono (Ext.mk1 hs n _).ss))
theorem addD_ok : Serves2 X.K addD (rAddD X.K) := by
  intro S H v w dx dy Q hs r1 r2 p
  have lists : ∀ xs ys, dx.items = some xs → dy.items = some ys → PostO X.K S H (if xs.length + ys.length ≤ LINE then some (.new (xs ++ ys)) else none) Q → rAddD X.K v w H Q := fun xs ys e1 e2 p => by
    obtain ⟨a, us, rfl, ha, ra⟩ := r1.items e1
    obtain ⟨b, ws, rfl, hb, rb⟩ := r2.items e2
    by_cases hl : xs.length + ys.length ≤ LINE
    · rw [if_pos hl] at p
      exact .inr (.inr ⟨a, b, us, ws, rfl, rfl, ha, hb, by rw [ra.length, rb.length, line_eq]; exact hl, p.new hs (ra.append rb)⟩)
    · rw [if_neg hl] at p; exact p.elim
  have other : (∀ xs ys, dx.items = some xs → dy.items = some ys → False) → (match dx.items, dy.items with
    | some xs, some ys => if xs.length + ys.length ≤ LINE then some (D.new (xs ++ ys)) else none
    | _, _ => none) = none := fun h => by
    cases e1 : dx.items with
    | none => rfl
    | some xs =>
      cases e2 : dy.items with
      | none => rfl
      | some ys => exact (h xs ys e1 e2).elim
  unfold addD at p
  split at p
  · rename_i i j
    cases r1
    cases r2
    exact .inl (.inl ⟨i, j, rfl, rfl, p.val hs (.int _)⟩)
  · rename_i i j
    cases r1
    cases r2
    by_cases hl : i.length + j.length ≤ LINE
    · rw [if_pos hl] at p
      exact .inl (.inr ⟨i, j, rfl, rfl, by rw [line_eq]; exact hl, p.val hs (.str _)⟩)
    · rw [if_neg hl] at p; exact p.elim
  · rename_i xs ys
    cases r1 with
    | tup h1 q1 =>
      cases r2 with
      | tup h2 q2 =>
        rename_i a us b ws
        by_cases hl : xs.length + ys.length ≤ LINE
        · rw [if_pos hl] at p
          refine .inr (.inl ⟨a, b, us, ws, rfl, rfl, Same.seqT hs h1, Same.seqT hs h2, by rw [q1.length, q2.length, line_eq]; exact hl, fun e => ?_, fun _ e => ?_, fun _ _ => p.tup hs (q1.append q2)⟩)
          · subst e
            cases q1
            exact p.val hs (.tup h2 q2)
          · subst e
            cases q2
            rw [List.append_nil] at p
            exact p.val hs (.tup h1 q1)
        · rw [if_neg hl] at p; exact p.elim
  · cases e1 : dx.items with
    | none => simp only [e1] at p; exact p.elim
    | some xs =>
      cases e2 : dy.items with
      | none => simp only [e1, e2] at p; exact p.elim
      | some ys =>
        simp only [e1, e2] at p
        exact lists xs ys e1 e2 p
theorem subD_ok : Serves2 X.K subD (rI0 fun i j => .int (i - j)) := by
  intro S H v w dx dy Q hs r1 r2 p
  unfold subD at p
  split at p
  · cases r1
    cases r2
    exact ⟨_, _, rfl, rfl, p.val hs (.int _)⟩
  · exact p.elim
def rMulD : R2 := fun x y H Q => (rI CMul fun i j => .int (i * j)) x y H Q ∨ (rI CMulX fun i j => .int (i * j)) x y H Q
theorem op_mulD : OpR X (binaryOp .Mult) rMulD := op_mul.or op_mulX
theorem mulD_ok : Serves2 X.K mulD rMulD := by
  intro S H v w dx dy Q hs r1 r2 p
  unfold mulD at p
  split at p
  · rename_i i j
    cases r1
    cases r2
    by_cases hm : mulOk i j
    · rw [if_pos hm] at p
      rcases hm with hm | hm
      · exact .inl ⟨_, _, rfl, rfl, hm, p.val hs (.int _)⟩
      · exact .inr ⟨_, _, rfl, rfl, hm, p.val hs (.int _)⟩
    · rw [if_neg hm] at p; exact p.elim
  · exact p.elim
def rFdivD : R2 := fun x y H Q => (rI CDivW fun i j => .int (i / j)) x y H Q ∨ (rI CDivN fun i j => .int (i.fdiv j)) x y H Q
theorem op_fdivD : OpR X (binaryOp .FloorDiv) rFdivD := op_fdivW.or op_fdivN
theorem fdivD_ok : Serves2 X.K fdivD rFdivD := by
  intro S H v w dx dy Q hs r1 r2 p
  unfold fdivD at p
  split at p
  · rename_i i j
    cases r1
    cases r2
    split at p
    · rename_i hm
      exact .inl ⟨_, _, rfl, rfl, hm, p.val hs (.int _)⟩
    · split at p
      · rename_i hm
        exact .inr ⟨_, _, rfl, rfl, hm, p.val hs (.int _)⟩
      · exact p.elim
  · exact p.elim
def rModD : R2 := fun x y H Q => (rI (fun _ j => 0 < j) fun i j => .int (i % j)) x y H Q ∨ (rI (fun _ j => j ≠ 0) fun i j => .int (i.fmod j)) x y H Q
theorem op_modD : OpR X (binaryOp .Mod) rModD := op_mod.or op_modN
theorem modD_ok : Serves2 X.K modD rModD := by
  intro S H v w dx dy Q hs r1 r2 p
  unfold modD at p
  split at p
  · rename_i i j
    cases r1
    cases r2
    split at p
    · rename_i hm
      exact .inl ⟨_, _, rfl, rfl, hm, p.val hs (.int _)⟩
    · split at p
      · rename_i hm
        exact .inr ⟨_, _, rfl, rfl, hm, p.val hs (.int _)⟩
      · exact p.elim
  · exact p.elim
theorem powD_ok : Serves2 X.K powD (rI CPow fun i j => .int (i ^ j.toNat)) := by
  intro S H v w dx dy Q hs r1 r2 p
  unfold powD at p
  split at p
  · cases r1
    cases r2
    split at p
    · rename_i hm
      exact ⟨_, _, rfl, rfl, hm, p.val hs (.int _)⟩
    · exact p.elim
  · exact p.elim
theorem negD_ok : Serves1 X.K negD (rU fun i => .int (-i)) := by
  intro S H v dx Q hs r1 p
  unfold negD at p
  split at p
  · cases r1
    exact ⟨_, rfl, p.val hs (.int _)⟩
  · exact p.elim
end
section
variable {X : Cx} {W : WX} {a b : Expr} {fa fb : Ev} {pos : Pos}
theorem d_add (ha : PE X a (T X.K W fa)) (hb : PE X b (T X.K W fb)) : PE X (.BinOp a .Add b pos) (T X.K W (e2 addD fa fb)) := d_op op_addD addD_ok ha hb
theorem d_sub (ha : PE X a (T X.K W fa)) (hb : PE X b (T X.K W fb)) : PE X (.BinOp a .Sub b pos) (T X.K W (e2 subD fa fb)) := d_op op_sub subD_ok ha hb
theorem d_mul (ha : PE X a (T X.K W fa)) (hb : PE X b (T X.K W fb)) : PE X (.BinOp a .Mult b pos) (T X.K W (e2 mulD fa fb)) := d_op op_mulD mulD_ok ha hb
theorem d_fdiv (ha : PE X a (T X.K W fa)) (hb : PE X b (T X.K W fb)) : PE X (.BinOp a .FloorDiv b pos) (T X.K W (e2 fdivD fa fb)) := d_op op_fdivD fdivD_ok ha hb
theorem d_mod (ha : PE X a (T X.K W fa)) (hb : PE X b (T X.K W fb)) : PE X (.BinOp a .Mod b pos) (T X.K W (e2 modD fa fb)) := d_op op_modD modD_ok ha hb
theorem d_pow (ha : PE X a (T X.K W fa)) (hb : PE X b (T X.K W fb)) : PE X (.BinOp a .Pow b pos) (T X.K W (e2 powD fa fb)) := d_op op_pow powD_ok ha hb
theorem d_neg (ha : PE X a (T X.K W fa)) : PE X (.UnaryOp .USub a pos) (T X.K W (e1 negD fa)) := d_un un_neg negD_ok ha
end

/-! ### comparisons -/
mutual
def D.py : D → PyData
  | .non => .none
  | .bl b => .bool b
  | .int i => .int i
  | .str s => .str s
  | .lst ds => .list (D.pyAll ds)
  | .tup ds => .tuple (D.pyAll ds)
  | .new ds => .list (D.pyAll ds)
  | .bor ds => .list (D.pyAll ds)
  | .frz ns => .list (ns.map PyData.int)
  | .obj _ _ => .none
def D.pyAll : List D → List PyData
  | [] => []
  | d :: ds => D.py d :: D.pyAll ds
end
mutual
/-- no object of a class in it -/
def D.pure : D → Bool
  | .lst ds => D.pureAll ds
  | .tup ds => D.pureAll ds
  | .new ds => D.pureAll ds
  | .bor ds => D.pureAll ds
  | .obj _ _ => false
  | .frz _ => false
  | _ => true
def D.pureAll : List D → Bool
  | [] => true
  | d :: ds => D.pure d && D.pureAll ds
end
section
variable {K : PySem.W.Frag} {S H : Hp}
mutual
theorem Rp.dp (m : Same S H) : ∀ {v : V} {d : D}, Rp K S v d → d.pure = true → Dp K H v d.py
  | _, _, .non, _ => by rw [D.py]; exact .non
  | _, _, .bl b, _ => by rw [D.py]; exact .bl b
  | _, _, .int i, _ => by rw [D.py]; exact .int i
  | _, _, .str s, _ => by rw [D.py]; exact .str s
  | _, _, .lst h r, e => by rw [D.py]; rw [D.pure] at e; exact .lst (SqL.of (m _ _ h)) (RpAll.dp m r e)
  | _, _, .tup h r, e => by rw [D.py]; rw [D.pure] at e; exact .tup (Same.seqT m h) (RpAll.dp m r e)
  | _, _, .frz h, e => by rw [D.pure] at e; cases e
  | _, _, .obj h r, e => by rw [D.pure] at e; cases e
theorem RpAll.dp (m : Same S H) : ∀ {vs : List V} {ds : List D}, RpAll K S vs ds → D.pureAll ds = true → DpAll K H vs (D.pyAll ds)
  | _, _, .nil, _ => by rw [D.pyAll]; exact .nil
  | _, _, .cons h r, e => by
    rw [D.pureAll, Bool.and_eq_true] at e
    rw [D.pyAll]; exact .cons (Rp.dp m h e.1) (RpAll.dp m r e.2)
end
theorem Rr.dp (m : Same S H) {v : V} {d : D} (r : Rr K S H v d) (e : d.pure = true) : Dp K H v d.py := by
  cases d with
  | lst ds => obtain ⟨a, xs, rfl, h, q⟩ := r; rw [D.py]; rw [D.pure] at e; exact .lst (SqL.of h) (q.dp m e)
  | new ds => obtain ⟨a, xs, rfl, h, q⟩ := r; rw [D.py]; rw [D.pure] at e; exact .lst (SqL.of h) (q.dp m e)
  | bor ds => obtain ⟨a, xs, rfl, h, q⟩ := r; rw [D.py]; rw [D.pure] at e; exact .lst (SqL.of h) (q.dp m e)
  | _ => exact Rp.dp m r e
end
def okEq (d : D) : Bool := d.pure && SeqAt.shaped d.py
def eqD (x y : D) : Option D := if okEq x && okEq y then some (.bl (PyData.eqv x.py y.py)) else none
def neD (x y : D) : Option D := if okEq x && okEq y then some (.bl (!PyData.eqv x.py y.py)) else none
def ltD (x y : D) : Option D := match x, y with | .int i, .int j => some (.bl (decide (i < j))) | _, _ => none
def leD (x y : D) : Option D := match x, y with | .int i, .int j => some (.bl (decide (i ≤ j))) | _, _ => none
def gtD (x y : D) : Option D := match x, y with | .int i, .int j => some (.bl (decide (j < i))) | _, _ => none
def geD (x y : D) : Option D := match x, y with | .int i, .int j => some (.bl (decide (j ≤ i))) | _, _ => none
def D.isNon : D → Bool | .non => true | _ => false
def isD (x y : D) : Option D := match x, y with
  | .bl a, .bl b => some (.bl (decide (a = b)))
  | x, .non => some (.bl x.isNon)
  | _, _ => none
def notIsD (x y : D) : Option D := match x, y with
  | .bl a, .bl b => some (.bl (!decide (a = b)))
  | x, .non => some (.bl (!x.isNon))
  | _, _ => none
theorem Rr.isNon {K : PySem.W.Frag} {S H : Hp} {v : V} {d : D} (r : Rr K S H v d) : decide (v = .non) = d.isNon := by
  cases d with
  | lst ds => obtain ⟨a, xs, rfl, _, _⟩ := r; rfl
  | new ds => obtain ⟨a, xs, rfl, _, _⟩ := r; rfl
  | bor ds => obtain ⟨a, xs, rfl, _, _⟩ := r; rfl
  | non => cases r; rfl
  | bl b => cases r; rfl
  | int i => cases r; rfl
  | str i => cases r; rfl
  | tup i => cases r; rfl
  | frz i => cases r; rfl
  | obj i => cases r; rfl
section
variable {X : Cx}
theorem eqD_ok : Serves2 X.K eqD (rEqD X.K) := by
  intro S H v w dx dy Q hs r1 r2 p
  unfold eqD at p
  split at p
  · rename_i h
    rw [Bool.and_eq_true] at h
    obtain ⟨h1, h2⟩ := h
    unfold okEq at h1 h2
    rw [Bool.and_eq_true] at h1 h2
    exact ⟨_, _, r1.dp hs h1.1, r2.dp hs h2.1, h1.2, h2.2, p.val hs (.bl _)⟩
  · exact p.elim
theorem neD_ok : Serves2 X.K neD (rNeD X.K) := by
  intro S H v w dx dy Q hs r1 r2 p
  unfold neD at p
  split at p
  · rename_i h
    rw [Bool.and_eq_true] at h
    obtain ⟨h1, h2⟩ := h
    unfold okEq at h1 h2
    rw [Bool.and_eq_true] at h1 h2
    exact ⟨_, _, r1.dp hs h1.1, r2.dp hs h2.1, h1.2, h2.2, p.val hs (.bl _)⟩
  · exact p.elim
theorem ltD_ok : Serves2 X.K ltD (rI0 fun i j => .bl (decide (i < j))) := by
  intro S H v w dx dy Q hs r1 r2 p
  unfold ltD at p
  split at p
  · cases r1
    cases r2
    exact ⟨_, _, rfl, rfl, p.val hs (.bl _)⟩
  · exact p.elim
theorem leD_ok : Serves2 X.K leD (rI0 fun i j => .bl (decide (i ≤ j))) := by
  intro S H v w dx dy Q hs r1 r2 p
  unfold leD at p
  split at p
  · cases r1
    cases r2
    exact ⟨_, _, rfl, rfl, p.val hs (.bl _)⟩
  · exact p.elim
theorem gtD_ok : Serves2 X.K gtD (rI0 fun i j => .bl (decide (j < i))) := by
  intro S H v w dx dy Q hs r1 r2 p
  unfold gtD at p
  split at p
  · cases r1
    cases r2
    exact ⟨_, _, rfl, rfl, p.val hs (.bl _)⟩
  · exact p.elim
theorem geD_ok : Serves2 X.K geD (rI0 fun i j => .bl (decide (j ≤ i))) := by
  intro S H v w dx dy Q hs r1 r2 p
  unfold geD at p
  split at p
  · cases r1
    cases r2
    exact ⟨_, _, rfl, rfl, p.val hs (.bl _)⟩
  · exact p.elim
def rIsD : R2 := fun x y H Q => rIsB x y H Q ∨ (y = .non ∧ Q (.bl (decide (x = .non))) H)
theorem op_isD : OpR X (compareOp .Is) rIsD := op_isBl.or op_isN
theorem isD_ok : Serves2 X.K isD rIsD := by
  intro S H v w dx dy Q hs r1 r2 p
  unfold isD at p
  split at p
  · cases r1
    cases r2
    exact .inl ⟨_, _, rfl, rfl, p.val hs (.bl _)⟩
  · cases r2
    refine .inr ⟨rfl, ?_⟩
    rw [r1.isNon]
    exact p.val hs (.bl _)
  · exact p.elim
def rNotIsD : R2 := fun x y H Q => rNotB x y H Q ∨ (y = .non ∧ Q (.bl (!decide (x = .non))) H)
theorem op_notIsD : OpR X (compareOp .IsNot) rNotIsD := op_notBl.or op_notN
theorem notIsD_ok : Serves2 X.K notIsD rNotIsD := by
  intro S H v w dx dy Q hs r1 r2 p
  unfold notIsD at p
  split at p
  · cases r1
    cases r2
    exact .inl ⟨_, _, rfl, rfl, p.val hs (.bl _)⟩
  · cases r2
    refine .inr ⟨rfl, ?_⟩
    rw [r1.isNon]
    exact p.val hs (.bl _)
  · exact p.elim
end
section
variable {X : Cx} {W : WX} {a b : Expr} {fa fb : Ev} {pos : Pos}
theorem d_eq (hu : X.A.units + 64 < cLine) (ha : PE X a (T X.K W fa)) (hb : PE X b (T X.K W fb)) : PE X (.Compare a [.Eq] [b] pos) (T X.K W (e2 eqD fa fb)) := d_cmp (op_eqD hu) eqD_ok (nomark _) ha hb
theorem d_ne (hu : X.A.units + 64 < cLine) (ha : PE X a (T X.K W fa)) (hb : PE X b (T X.K W fb)) : PE X (.Compare a [.NotEq] [b] pos) (T X.K W (e2 neD fa fb)) := d_cmp (op_neD hu) neD_ok (nomark _) ha hb
theorem d_lt (ha : PE X a (T X.K W fa)) (hb : PE X b (T X.K W fb)) : PE X (.Compare a [.Lt] [b] pos) (T X.K W (e2 ltD fa fb)) := d_cmp op_lt ltD_ok (nomark _) ha hb
theorem d_le (ha : PE X a (T X.K W fa)) (hb : PE X b (T X.K W fb)) : PE X (.Compare a [.LtE] [b] pos) (T X.K W (e2 leD fa fb)) := d_cmp op_le leD_ok (nomark _) ha hb
theorem d_gt (ha : PE X a (T X.K W fa)) (hb : PE X b (T X.K W fb)) : PE X (.Compare a [.Gt] [b] pos) (T X.K W (e2 gtD fa fb)) := d_cmp op_gt gtD_ok (nomark _) ha hb
theorem d_ge (ha : PE X a (T X.K W fa)) (hb : PE X b (T X.K W fb)) : PE X (.Compare a [.GtE] [b] pos) (T X.K W (e2 geD fa fb)) := d_cmp op_ge geD_ok (nomark _) ha hb
theorem d_is (ha : PE X a (T X.K W fa)) (hb : PE X b (T X.K W fb)) : PE X (.Compare a [.Is] [b] pos) (T X.K W (e2 isD fa fb)) := d_cmp op_isD isD_ok (nomark _) ha hb
theorem d_notIs (ha : PE X a (T X.K W fa)) (hb : PE X b (T X.K W fb)) : PE X (.Compare a [.IsNot] [b] pos) (T X.K W (e2 notIsD fa fb)) := d_cmp op_notIsD notIsD_ok (nomark _) ha hb
end
end DL

namespace DL
open PySem L2

/-! ### arguments, displays -/
abbrev Ea := Rho → Res (List D)
def nilA : Ea := fun _ => .ok []
def consA (f : Ev) (fs : Ea) : Ea := fun ρ => (stE f ρ).bind fun x => (fs ρ).bind fun xs => .ok (x :: xs)
theorem stE_ok {f : Ev} {ρ : Rho} {d : D} (h : stE f ρ = .ok d) : ∃ d0, f ρ = .ok d0 ∧ d0.settle = some d := by
  unfold stE e1 at h
  cases e : f ρ with
  | ok d0 =>
    rw [e] at h
    refine ⟨d0, rfl, ?_⟩
    simp only [bind_ok] at h
    cases e2 : d0.settle with
    | none => rw [e2] at h; cases h
    | some d2 => rw [e2] at h; cases h; rfl
  | err x => rw [e] at h; cases h
  | st => rw [e] at h; cases h
section
variable {X : Cx} {W : WX} {a b e : Expr} {es : List Expr} {fa fb f : Ev} {fs : Ea} {pos : Pos}
theorem t_cons {K : PySem.W.Frag} {σ : St} {H : Hp} {Q : List V → Hp → Prop} (h : TAs K W (consA f fs) σ H Q) : tCons (T K W f) (TAs K W fs) σ H Q := by
  obtain ⟨S0, H0, S, ρ, R, p⟩ := h
  refine t_stE ⟨S0, H0, S, ρ, R, ?_⟩
  unfold consA at p
  cases e : stE f ρ with
  | ok d =>
    rw [e] at p
    obtain ⟨d0, _, hd⟩ := stE_ok e
    refine fun v S1 H1 e1 r1 => ⟨S0, H0, S1, ρ, R.ext e1, ?_⟩
    have r1 := settle_rp hd r1
    have p1 := p.ext e1
    cases eb : fs ρ with
    | ok ds =>
      simp only [bind_ok, eb] at p1
      exact fun vs S2 H2 e2 r2 => p1 _ S2 H2 e2 (.cons (r1.mono e2.ss) r2)
    | err x => simp only [bind_ok, eb] at p1; exact p1
    | st => simp only [bind_ok, eb] at p1; exact p1
  | err x => rw [e] at p; exact p
  | st => rw [e] at p; exact p
theorem a_nil : PA X [] (TAs X.K W nilA) := PA.imp pa_nil fun _ _ _ h => by
  obtain ⟨S0, H0, S, ρ, R, p⟩ := h
  exact p [] S _ (Ext.refl R.sh) .nil
theorem a_cons (ha : PE X e (T X.K W f)) (hr : PA X es (TAs X.K W fs)) (hs : starEach (e :: es) X.env = (false, eval e X.env) :: starEach es X.env := by rfl) : PA X (e :: es) (TAs X.K W (consA f fs)) :=
  PA.imp (pa_cons ha hr hs) fun _ _ _ h => t_cons h
def tupE (fs : Ea) : Ev := fun ρ => (fs ρ).bind fun ds => if ds.length ≤ LINE then .ok (.tup ds) else .st
def lstE (fs : Ea) : Ev := fun ρ => (fs ρ).bind fun ds => if ds.length ≤ LINE then .ok (.new ds) else .st
theorem d_tup {x1} (h : PA X es (TAs X.K W fs)) : PE X (.Tuple es x1 pos) (T X.K W (tupE fs)) := PE.imp (pe_tup h) fun σ H Q h => by
  obtain ⟨S0, H0, S, ρ, R, p⟩ := h
  refine ⟨S0, H0, S, ρ, R, ?_⟩
  unfold tupE at p
  cases e : fs ρ with
  | ok ds =>
    rw [e] at p
    simp only [bind_ok] at p
    by_cases hl : ds.length ≤ LINE
    · rw [if_pos hl] at p
      exact fun vs S' H' ex r => ⟨by rw [r.length, line_eq]; exact hl, (PostD.o (r := some _) (p.ext ex)).tup ex.sh r⟩
    · rw [if_neg hl] at p; exact p.elim
  | err x => rw [e] at p; exact p
  | st => rw [e] at p; exact p
theorem d_lst (h : PA X es (TAs X.K W fs)) : PE X (.List es pos) (T X.K W (lstE fs)) := PE.imp (pe_lst h) fun σ H Q h => by
  obtain ⟨S0, H0, S, ρ, R, p⟩ := h
  refine ⟨S0, H0, S, ρ, R, ?_⟩
  unfold lstE at p
  cases e : fs ρ with
  | ok ds =>
    rw [e] at p
    simp only [bind_ok] at p
    by_cases hl : ds.length ≤ LINE
    · rw [if_pos hl] at p
      exact fun vs S' H' ex r => ⟨by rw [r.length, line_eq]; exact hl, (PostD.o (r := some _) (p.ext ex)).new ex.sh r⟩
    · rw [if_neg hl] at p; exact p.elim
  | err x => rw [e] at p; exact p
  | st => rw [e] at p; exact p
end

/-! ### subscripts, slices -/
def ixD (x y : D) : Option D := match x, y with
  | .tup ds, .int i => atI ds i
  | .str z, .int i => if z.length ≤ LINE then (atI z.cps.toList i).map fun c => .str ⟨#[c]⟩ else none
  | x, .int i => x.items.bind fun ds => atI ds i
  | _, _ => none
theorem RpAll.atI {K : PySem.W.Frag} {H : Hp} {vs : List V} {ds : List D} {i : Int} {d : D} (r : RpAll K H vs ds) (h : L2.atI ds i = some d) : ∃ v, L2.atI vs i = some v ∧ Rp K H v d := by
  unfold L2.atI at h ⊢
  rw [r.length]
  cases e : ixN ds.length i with
  | none => rw [e] at h; cases h
  | some j =>
    rw [e] at h
    exact r.get h
section
variable {X : Cx} {W : WX} {a b e : Expr} {fa fb f : Ev} {pos p2 : Pos}
theorem ixD_ok : Serves2 X.K ixD (rIx X.K) := by
  intro S H v w dx dy Q hs r1 r2 p
  unfold ixD at p
  split at p
  · rename_i ds i
    cases r2
    cases r1 with
    | tup h q =>
      cases e : L2.atI ds i with
      | none => rw [e] at p; exact p.elim
      | some d =>
        rw [e] at p
        obtain ⟨z, h1, h2⟩ := q.atI e
        exact .inr (.inl ⟨_, _, i, z, rfl, rfl, Same.seqT hs h, h1, p.val hs h2⟩)
  · rename_i z i
    cases r2
    cases r1
    split at p
    · rename_i hl
      cases e : L2.atI z.cps.toList i with
      | none => rw [e] at p; exact p.elim
      | some c =>
        rw [e] at p
        exact .inr (.inr ⟨z, i, c, rfl, rfl, by rw [line_eq]; exact hl, e, p.val hs (.str _)⟩)
    · exact p.elim
  · rename_i x i _ _
    cases r2
    cases e : dx.items with
    | none => rw [e] at p; exact p.elim
    | some ds =>
      rw [e] at p
      obtain ⟨a, xs, rfl, ha, q⟩ := r1.items e
      simp only [Option.bind_some] at p
      cases e2 : L2.atI ds i with
      | none => rw [e2] at p; exact p.elim
      | some d =>
        rw [e2] at p
        obtain ⟨z, h1, h2⟩ := q.atI e2
        exact .inl ⟨a, xs, i, z, rfl, rfl, SqL.of ha, h1, p.val hs h2⟩
  · exact p.elim
theorem d_ix (ha : PE X a (T X.K W fa)) (hb : PE X b (T X.K W fb)) (hs : PlainIx b := by exact fun _ _ => rfl) : PE X (.Subscript a b pos) (T X.K W (e2 ixD fa fb)) :=
  PE.imp (pe_ix ix_seq ha hb hs) fun _ _ _ h => t_e2 ixD_ok h
def cutL {α : Type} (xs : List α) (lo hi : Option Int) : List α := (xs.drop (HT.sIx xs.length 0 lo)).take (HT.sIx xs.length xs.length hi - HT.sIx xs.length 0 lo)
def sliceD (x : D) (lo hi : Option Int) : Option D := match x with
  | .tup ds => some (.tup (cutL ds lo hi))
  | .frz ns => some (.new ((cutL ns lo hi).map .int))
  | .str z => if z.length ≤ LINE then some (.str (cutS z lo hi)) else none
  | x => x.items.map fun ds => .new (cutL ds lo hi)
abbrev Eo := Rho → Res (Option Int)
def noO : Eo := fun _ => .ok none
def someO (f : Ev) : Eo := fun ρ => (f ρ).bind fun d => match d with | .int i => .ok (some i) | _ => .st
def sliceE (f : Ev) (fl fh : Eo) : Ev := fun ρ => (f ρ).bind fun x => (fl ρ).bind fun l => (fh ρ).bind fun h => ofO (sliceD x l h)
def PostI (W : WX) (S H : Hp) (σ : St) (r : Res (Option Int)) (Q : Option Int → Hp → Prop) : Prop := match r with
  | .ok i => ∀ S' H', Ext S H S' H' → Q i H'
  | .err x => PostX W S H σ x
  | .st => False
def TOs (K : PySem.W.Frag) (W : WX) (f : Eo) : TO := fun σ H Q => ∃ S0 H0 S ρ, Rel K S0 H0 S H σ ρ ∧ PostI W S H σ (f ρ) Q
theorem PO.imp {X : Cx} {e : Option Expr} {t t' : TO} (h : PO X e t) (hi : ∀ σ H Q, t' σ H Q → t σ H Q) : PO X e t' := ⟨fun pins s σ H Q I q => h.run pins s σ H Q I (hi _ _ _ q)⟩
theorem o_none : PO X none (TOs X.K W noO) := PO.imp po_none fun σ H Q h => by
  obtain ⟨S0, H0, S, ρ, R, p⟩ := h
  exact p S H (Ext.refl R.sh)
theorem o_some (h : PE X e (T X.K W f)) : PO X (some e) (TOs X.K W (someO f)) := PO.imp (po_some h) fun σ H Q h => by
  obtain ⟨S0, H0, S, ρ, R, p⟩ := h
  refine ⟨S0, H0, S, ρ, R, ?_⟩
  unfold someO at p
  cases e : f ρ with
  | ok d =>
    rw [e] at p
    cases d with
    | int i => exact fun v S' H' ex r => by cases r; exact ⟨i, rfl, p S' H' ex⟩
    | _ => exact p.elim
  | err x => rw [e] at p; exact p
  | st => rw [e] at p; exact p
theorem cutL_length {α : Type} (xs : List α) (lo hi : Option Int) : (cutL xs lo hi).length ≤ xs.length := by
  unfold cutL
  rw [List.length_take, List.length_drop]
  omega
theorem RpAll.cut {K : PySem.W.Frag} {H : Hp} {vs : List V} {ds : List D} (r : RpAll K H vs ds) (lo hi : Option Int) : RpAll K H (cutV vs lo hi) (cutL ds lo hi) := by
  unfold cutV cutL
  rw [r.length]
  exact (r.drop _).take _
theorem cut_whole {α : Type} {xs : List α} {lo hi : Option Int} (h : HT.sIx xs.length 0 lo = 0 ∧ HT.sIx xs.length xs.length hi = xs.length) : cutL xs lo hi = xs := by
  unfold cutL
  rw [h.1, h.2]; simp
def rSlD (K : PySem.W.Frag) : V → Option Int → Option Int → Hp → VK → Prop := fun x lo hi H Q => (rSlL K x lo hi H Q ∨ rSlA K x lo hi H Q) ∨ ∃ z, x = .str z ∧ z.length ≤ sizeLine ∧ Q (.str (cutS z lo hi)) H
theorem sl_D : SlR X (rSlD X.K) := (sl_list.or sl_tupA).or sl_str
theorem sliceD_ok {K : PySem.W.Frag} {S H : Hp} {v : V} {dx : D} {lo hi : Option Int} {Q : VK} (hs : Same S H) (r : Rr K S H v dx) (p : PostO K S H (sliceD dx lo hi) Q) : rSlD K v lo hi H Q := by
  unfold sliceD at p
  split at p
  · rename_i ds
    cases r with
    | tup h q =>
      rename_i a xs
      refine .inl (.inr ⟨a, xs, rfl, Same.seqT hs h, fun w => ?_, fun _ => p.tup hs (q.cut lo hi)⟩)
      rw [q.length] at w
      rw [cut_whole w] at p
      exact p.val hs (.tup h q)
  · rename_i ns
    cases r with
    | frz h =>
      rename_i a
      refine .inl (.inl ⟨a, _, rfl, hs.seq h, fun q n => ?_⟩)
      have e : cutV (ns.map V.int) lo hi = (cutL ns lo hi).map V.int := by
        unfold cutV cutL
        rw [List.length_map, List.map_take, List.map_drop]
      rw [e]
      exact p.new hs (RpAll.of_ints _) q n
  · rename_i z
    cases r
    split at p
    · rename_i hl
      exact .inr ⟨z, rfl, by rw [line_eq]; exact hl, p.val hs (.str _)⟩
    · exact p.elim
  · cases e : dx.items with
    | none => rw [e] at p; exact p.elim
    | some ds =>
      rw [e] at p
      obtain ⟨a, xs, rfl, ha, q⟩ := r.items e
      exact .inl (.inl ⟨a, xs, rfl, SqL.of ha, p.new hs (q.cut lo hi)⟩)
theorem d_slice {lo hi : Option Expr} {fl fh : Eo} (he : PE X e (T X.K W f)) (hl : PO X lo (TOs X.K W fl)) (hh : PO X hi (TOs X.K W fh)) : PE X (.Subscript e (.Slice lo hi none p2) pos) (T X.K W (sliceE f fl fh)) :=
  PE.imp (pe_slice sl_D he hl hh) fun σ H Q h => by
    obtain ⟨S0, H0, S, ρ, R, p⟩ := h
    refine ⟨S0, H0, S, ρ, R, ?_⟩
    unfold sliceE at p
    cases e : f ρ with
    | ok d =>
      rw [e] at p
      refine fun v S1 H1 e1 r1 => ⟨S0, H0, S1, ρ, R.ext e1, ?_⟩
      have p1 := p.ext e1
      cases el : fl ρ with
      | ok l =>
        simp only [bind_ok, el] at p1
        refine fun S2 H2 e2 => ⟨S0, H0, S2, ρ, (R.ext e1).ext e2, ?_⟩
        have p2 := p1.ext e2
        cases eh : fh ρ with
        | ok h =>
          simp only [bind_ok, eh] at p2
          exact fun S3 H3 e3 => sliceD_ok e3.sh ((r1.rr e1.sh).mono (e2.trans e3).ss (e2.trans e3).hh) (PostD.o (p2.ext e3))
        | err x => simp only [bind_ok, eh] at p2; exact p2
        | st => simp only [bind_ok, eh] at p2; exact p2
      | err x => simp only [bind_ok, el] at p1; exact p1
      | st => simp only [bind_ok, el] at p1; exact p1
    | err x => rw [e] at p; exact p
    | st => rw [e] at p; exact p
/-- xs[::-1] of a list -/
def revD (x : D) : Option D := x.items.map fun ds => .new ds.reverse
theorem d_rev {k : Nat} {p1 p2 p3 : Pos} (he : PE X e (T X.K W f)) : PE X (.Subscript e (.Slice none none (some (.UnaryOp .USub (.Constant (.int 1) k p1) p2)) p3) pos) (T X.K W (e1 revD f)) :=
  PE.imp (pe_revL he) fun σ H Q h => t_e1 (r := fun x H1 Q => ∃ a xs, x = .ref a ∧ SqL X.K H1 a xs ∧ ∀ p, H1 p = none → Q (.ref p) (upd H1 p (.lst xs.reverse))) (fun S H v dx Q hs r p => by
    unfold revD at p
    cases e : dx.items with
    | none => rw [e] at p; exact p.elim
    | some ds =>
      rw [e] at p
      obtain ⟨a, xs, rfl, ha, q⟩ := r.items e
      exact ⟨a, xs, rfl, SqL.of ha, p.new hs q.reverse⟩) h
end

/-! ### builtins with one argument, with two -/
theorem CallR.or {X : Cx} {f : Value} {r r' : List V → Hp → VK → Prop} (h : CallR X f r) (h' : CallR X f r') : CallR X f (fun xs H Q => r xs H Q ∨ r' xs H Q) := by
  intro pins s σ H xs us Q I rv q
  rcases q with q | q
  · exact h pins s σ H xs us Q I rv q
  · exact h' pins s σ H xs us Q I rv q
def ServesC1 (K : PySem.W.Frag) (g : D → Option D) (r : List V → Hp → VK → Prop) : Prop :=
  ∀ (S H : Hp) (v : V) (dx : D) (Q : VK), Same S H → Rr K S H v dx → PostO K S H (g dx) Q → r [v] H Q
def ServesC2 (K : PySem.W.Frag) (g : D → D → Option D) (r : List V → Hp → VK → Prop) : Prop :=
  ∀ (S H : Hp) (v w : V) (dx dy : D) (Q : VK), Same S H → Rr K S H v dx → Rr K S H w dy → PostO K S H (g dx dy) Q → r [v, w] H Q
section
variable {X : Cx} {W : WX} {a b e : Expr} {fa fb f : Ev} {pos p : Pos} {x : Str} {id Ty : String} {r : List V → Hp → VK → Prop} {g : D → Option D} {g2 : D → D → Option D}
theorem t_c1 {K : PySem.W.Frag} (hg : ServesC1 K g r) {σ : St} {H : Hp} {Q : VK} (h : T K W (e1 g f) σ H Q) : tCB r (tCons (T K W f) tNil) σ H Q := t_e1 (r := fun v H Q => r [v] H Q) hg h
theorem t_c2 {K : PySem.W.Frag} (hg : ServesC2 K g2 r) {σ : St} {H : Hp} {Q : VK} (h : T K W (e2 g2 fa fb) σ H Q) : tCB r (tCons (T K W fa) (tCons (T K W fb) tNil)) σ H Q := t_e2 (r := fun v w H Q => r [v, w] H Q) hg h
theorem d_callB1 (hc : CallR X (.builtin id) r) (hs : ServesC1 X.K g r) (hg : Gl X x) (hm : X.mg x = none) (hv : bootBuiltins x = some (.builtin id)) (ha : PE X a (T X.K W f))
    (h1 : starEach [a] X.env = (false, eval a X.env) :: starEach [] X.env := by rfl) (hn : x ≠ "__name__" := by decide) (hdb : (x == ("__debug__" : Str)) = false := by decide)
    (hpl : (backTo pos (starEach [] X.env)).any (·.1) = false := by rfl) : PE X (.Call (.Name x p) [a] [] pos) (T X.K W (e1 g f)) :=
  PE.imp (pe_callB hc hg hm hv (pa_cons ha pa_nil h1) hn hdb h1 hpl) fun _ _ _ h => t_c1 hs h
theorem d_callTy1 (hc : CallR X (.type Ty) r) (hs : ServesC1 X.K g r) (hg : Gl X x) (hm : X.mg x = none) (hv : bootBuiltins x = some (.type Ty)) (ha : PE X a (T X.K W f))
    (h1 : starEach [a] X.env = (false, eval a X.env) :: starEach [] X.env := by rfl) (hn : x ≠ "__name__" := by decide) (hdb : (x == ("__debug__" : Str)) = false := by decide)
    (hpl : (backTo pos (starEach [] X.env)).any (·.1) = false := by rfl) : PE X (.Call (.Name x p) [a] [] pos) (T X.K W (e1 g f)) :=
  PE.imp (pe_callTy hc hg hm hv (pa_cons ha pa_nil h1) hn hdb h1 hpl) fun _ _ _ h => t_c1 hs h
theorem d_callB2 (hc : CallR X (.builtin id) r) (hs : ServesC2 X.K g2 r) (hg : Gl X x) (hm : X.mg x = none) (hv : bootBuiltins x = some (.builtin id)) (ha : PE X a (T X.K W fa)) (hb : PE X b (T X.K W fb))
    (h1 : starEach [a, b] X.env = (false, eval a X.env) :: starEach [b] X.env := by rfl) (h2 : starEach [b] X.env = (false, eval b X.env) :: starEach [] X.env := by rfl) (hn : x ≠ "__name__" := by decide) (hdb : (x == ("__debug__" : Str)) = false := by decide)
    (hpl : (backTo pos (starEach [b] X.env)).any (·.1) = false := by rfl) : PE X (.Call (.Name x p) [a, b] [] pos) (T X.K W (e2 g2 fa fb)) :=
  PE.imp (pe_callB hc hg hm hv (pa_cons ha (pa_cons hb pa_nil h2) h1) hn hdb h1 hpl) fun _ _ _ h => t_c2 hs h
end
def lenD (x : D) : Option D := match x with
  | .tup ds => some (.int ds.length)
  | .frz ns => some (.int ns.length)
  | .str z => if z.length ≤ LINE then some (.int z.length) else none
  | x => x.items.map fun ds => .int ds.length
def intD (x : D) : Option D := match x with
  | .int i => some (.int i)
  | .bl b => some (.int (if b then 1 else 0))
  | _ => none
def absD (x : D) : Option D := match x with | .int i => some (.int (if i < 0 then -i else i)) | _ => none
def maxD (x y : D) : Option D := match x, y with | .int i, .int j => some (.int (if j > i then j else i)) | _, _ => none
def minD (x y : D) : Option D := match x, y with | .int i, .int j => some (.int (if j < i then j else i)) | _, _ => none
def listD (x : D) : Option D := match x with
  | .tup ds => some (.new ds)
  | .frz ns => some (.new (ns.map .int))
  | x => x.items.map .new
def tupleD (x : D) : Option D := match x with
  | .tup ds => some (.tup ds)
  | x => x.items.map .tup
def D.asInts : List D → Option (List Int)
  | [] => some []
  | .int i :: r => (D.asInts r).map (i :: ·)
  | _ :: _ => none
def D.asBls : List D → Option (List Bool)
  | [] => some []
  | .bl i :: r => (D.asBls r).map (i :: ·)
  | _ :: _ => none
theorem asInts_of : ∀ {ds : List D} {ns : List Int}, D.asInts ds = some ns → ds = ns.map .int
  | [], ns, h => by cases h; rfl
  | .int i :: r, ns, h => by
    rw [D.asInts] at h
    cases e : D.asInts r with
    | none => rw [e] at h; cases h
    | some ms => rw [e] at h; cases h; rw [asInts_of e]; rfl
  | .non :: _, _, h => by cases h
  | .bl _ :: _, _, h => by cases h
  | .str _ :: _, _, h => by cases h
  | .lst _ :: _, _, h => by cases h
  | .tup _ :: _, _, h => by cases h
  | .frz _ :: _, _, h => by cases h
  | .obj _ _ :: _, _, h => by cases h
  | .new _ :: _, _, h => by cases h
  | .bor _ :: _, _, h => by cases h
theorem asBls_of : ∀ {ds : List D} {ns : List Bool}, D.asBls ds = some ns → ds = ns.map .bl
  | [], ns, h => by cases h; rfl
  | .bl i :: r, ns, h => by
    rw [D.asBls] at h
    cases e : D.asBls r with
    | none => rw [e] at h; cases h
    | some ms => rw [e] at h; cases h; rw [asBls_of e]; rfl
  | .non :: _, _, h => by cases h
  | .int _ :: _, _, h => by cases h
  | .str _ :: _, _, h => by cases h
  | .lst _ :: _, _, h => by cases h
  | .tup _ :: _, _, h => by cases h
  | .frz _ :: _, _, h => by cases h
  | .obj _ _ :: _, _, h => by cases h
  | .new _ :: _, _, h => by cases h
  | .bor _ :: _, _, h => by cases h
@[simp] theorem asInts_map : ∀ (ns : List Int), D.asInts (ns.map .int) = some ns
  | [] => rfl
  | n :: r => by rw [List.map_cons, D.asInts, asInts_map r]; rfl
@[simp] theorem asBls_map : ∀ (ns : List Bool), D.asBls (ns.map .bl) = some ns
  | [] => rfl
  | n :: r => by rw [List.map_cons, D.asBls, asBls_map r]; rfl
def sumD (x : D) : Option D := x.items.bind fun ds => (D.asInts ds).map fun ns => .int ns.sum
def allD (x : D) : Option D := x.items.bind fun ds => (D.asBls ds).map fun bs => .bl (bs.all id)
def anyD (x : D) : Option D := x.items.bind fun ds => (D.asBls ds).map fun bs => .bl (bs.any id)
section
variable {X : Cx} {K : PySem.W.Frag}
theorem lenD_ok : ServesC1 K lenD (fun xs H Q => ∃ x n, xs = [x] ∧ LenV K x H n ∧ Q (.int n) H) := by
  intro S H v dx Q hs r p
  unfold lenD at p
  split at p
  · rename_i ds
    cases r with
    | tup h q => exact ⟨_, ds.length, rfl, .inr ⟨_, Same.seqT hs h, q.length.symm⟩, p.val hs (.int _)⟩
  · rename_i ns
    cases r with
    | frz h => exact ⟨_, ns.length, rfl, .inl ⟨_, hs.seq h, by rw [List.length_map]⟩, p.val hs (.int _)⟩
  · rename_i z
    cases r
    split at p
    · rename_i hl
      exact ⟨_, z.length, rfl, ⟨by rw [line_eq]; exact hl, rfl⟩, p.val hs (.int _)⟩
    · exact p.elim
  · cases e : dx.items with
    | none => rw [e] at p; exact p.elim
    | some ds =>
      rw [e] at p
      obtain ⟨a, xs, rfl, ha, q⟩ := r.items e
      exact ⟨_, ds.length, rfl, .inl ⟨_, SqL.of ha, q.length.symm⟩, p.val hs (.int _)⟩
theorem intD_ok : ServesC1 K intD (fun xs H Q => (∃ i, xs = [.int i] ∧ Q (.int i) H) ∨ ∃ k, xs = [.bl k] ∧ Q (.int (if k then 1 else 0)) H) := by
  intro S H v dx Q hs r p
  unfold intD at p
  split at p
  · cases r; exact .inl ⟨_, rfl, p.val hs (.int _)⟩
  · cases r; exact .inr ⟨_, rfl, p.val hs (.int _)⟩
  · exact p.elim
theorem absD_ok : ServesC1 K absD (fun xs H Q => ∃ i, xs = [.int i] ∧ Q (.int (if i < 0 then -i else i)) H) := by
  intro S H v dx Q hs r p
  unfold absD at p
  split at p
  · cases r; exact ⟨_, rfl, p.val hs (.int _)⟩
  · exact p.elim
theorem maxD_ok : ServesC2 K maxD (fun xs H Q => ∃ i j, xs = [.int i, .int j] ∧ Q (.int (if j > i then j else i)) H) := by
  intro S H v w dx dy Q hs r1 r2 p
  unfold maxD at p
  split at p
  · cases r1; cases r2; exact ⟨_, _, rfl, p.val hs (.int _)⟩
  · exact p.elim
theorem minD_ok : ServesC2 K minD (fun xs H Q => ∃ i j, xs = [.int i, .int j] ∧ Q (.int (if j < i then j else i)) H) := by
  intro S H v w dx dy Q hs r1 r2 p
  unfold minD at p
  split at p
  · cases r1; cases r2; exact ⟨_, _, rfl, p.val hs (.int _)⟩
  · exact p.elim
theorem listD_ok : ServesC1 K listD (fun xs H Q => ∃ p ys, xs = [.ref p] ∧ (SqL K H p ys ∨ SqT K H p ys) ∧ ∀ l, H l = none → Q (.ref l) (upd H l (.lst ys))) := by
  intro S H v dx Q hs r p
  unfold listD at p
  split at p
  · cases r with
    | tup h q => exact ⟨_, _, rfl, .inr (Same.seqT hs h), p.new hs q⟩
  · cases r with
    | frz h => exact ⟨_, _, rfl, .inl (hs.seq h), p.new hs (RpAll.of_ints _)⟩
  · cases e : dx.items with
    | none => rw [e] at p; exact p.elim
    | some ds =>
      rw [e] at p
      obtain ⟨a, xs, rfl, ha, q⟩ := r.items e
      exact ⟨_, _, rfl, .inl (SqL.of ha), p.new hs q⟩
theorem tupleD_ok : ServesC1 K tupleD (fun xs H Q => ∃ p ys, xs = [.ref p] ∧ ((SqL K H p ys ∧ ∀ l, H l = none → Q (.ref l) (upd H l (.tup ys))) ∨ (SqT K H p ys ∧ Q (.ref p) H))) := by
  intro S H v dx Q hs r p
  unfold tupleD at p
  split at p
  · cases r with
    | tup h q => exact ⟨_, _, rfl, .inr ⟨Same.seqT hs h, p.val hs (.tup h q)⟩⟩
  · cases e : dx.items with
    | none => rw [e] at p; exact p.elim
    | some ds =>
      rw [e] at p
      obtain ⟨a, xs, rfl, ha, q⟩ := r.items e
      exact ⟨_, _, rfl, .inl ⟨SqL.of ha, p.tup hs q⟩⟩
theorem sumD_ok : ServesC1 K sumD (rSum K) := by
  intro S H v dx Q hs r p
  unfold sumD at p
  cases e : dx.items with
  | none => rw [e] at p; exact p.elim
  | some ds =>
    rw [e] at p
    obtain ⟨a, xs, rfl, ha, q⟩ := r.items e
    simp only [Option.bind_some] at p
    cases e2 : D.asInts ds with
    | none => rw [e2] at p; exact p.elim
    | some ns =>
      rw [e2] at p
      rw [asInts_of e2] at q
      rw [q.ints] at ha
      exact ⟨a, ns, rfl, SqL.of ha, p.val hs (.int _)⟩
theorem allD_ok : ServesC1 K allD (rAll K) := by
  intro S H v dx Q hs r p
  unfold allD at p
  cases e : dx.items with
  | none => rw [e] at p; exact p.elim
  | some ds =>
    rw [e] at p
    obtain ⟨a, xs, rfl, ha, q⟩ := r.items e
    simp only [Option.bind_some] at p
    cases e2 : D.asBls ds with
    | none => rw [e2] at p; exact p.elim
    | some ns =>
      rw [e2] at p
      rw [asBls_of e2] at q
      rw [q.bls] at ha
      exact ⟨a, ns, rfl, SqL.of ha, p.val hs (.bl _)⟩
theorem anyD_ok : ServesC1 K anyD (rAny K) := by
  intro S H v dx Q hs r p
  unfold anyD at p
  cases e : dx.items with
  | none => rw [e] at p; exact p.elim
  | some ds =>
    rw [e] at p
    obtain ⟨a, xs, rfl, ha, q⟩ := r.items e
    simp only [Option.bind_some] at p
    cases e2 : D.asBls ds with
    | none => rw [e2] at p; exact p.elim
    | some ns =>
      rw [e2] at p
      rw [asBls_of e2] at q
      rw [q.bls] at ha
      exact ⟨a, ns, rfl, SqL.of ha, p.val hs (.bl _)⟩
end
section
variable {X : Cx} {W : WX} {a b e : Expr} {fa fb f : Ev} {pos p : Pos}
theorem d_len (hm : X.mg "len" = none) (ha : PE X a (T X.K W f)) (hg : Gl X "len" := by rfl)
    (h1 : starEach [a] X.env = (false, eval a X.env) :: starEach [] X.env := by rfl) (hpl : (backTo pos (starEach [] X.env)).any (·.1) = false := by rfl) : PE X (.Call (.Name "len" p) [a] [] pos) (T X.K W (e1 lenD f)) :=
  d_callB1 call_len lenD_ok hg hm PySem.boot_len ha h1 (by decide) (by decide) hpl
theorem d_intc (hm : X.mg "int" = none) (ha : PE X a (T X.K W f)) (hg : Gl X "int" := by rfl)
    (h1 : starEach [a] X.env = (false, eval a X.env) :: starEach [] X.env := by rfl) (hpl : (backTo pos (starEach [] X.env)).any (·.1) = false := by rfl) : PE X (.Call (.Name "int" p) [a] [] pos) (T X.K W (e1 intD f)) :=
  d_callTy1 call_int1 intD_ok hg hm (by decide +kernel) ha h1 (by decide) (by decide) hpl
theorem d_abs (hm : X.mg "abs" = none) (ha : PE X a (T X.K W f)) (hg : Gl X "abs" := by rfl)
    (h1 : starEach [a] X.env = (false, eval a X.env) :: starEach [] X.env := by rfl) (hpl : (backTo pos (starEach [] X.env)).any (·.1) = false := by rfl) : PE X (.Call (.Name "abs" p) [a] [] pos) (T X.K W (e1 absD f)) :=
  d_callB1 call_abs absD_ok hg hm (by decide +kernel) ha h1 (by decide) (by decide) hpl
theorem d_listc (hm : X.mg "list" = none) (ha : PE X a (T X.K W f)) (hg : Gl X "list" := by rfl)
    (h1 : starEach [a] X.env = (false, eval a X.env) :: starEach [] X.env := by rfl) (hpl : (backTo pos (starEach [] X.env)).any (·.1) = false := by rfl) : PE X (.Call (.Name "list" p) [a] [] pos) (T X.K W (e1 listD f)) :=
  d_callTy1 call_list_of listD_ok hg hm (by decide +kernel) ha h1 (by decide) (by decide) hpl
theorem d_tuplec (hm : X.mg "tuple" = none) (ha : PE X a (T X.K W f)) (hg : Gl X "tuple" := by rfl)
    (h1 : starEach [a] X.env = (false, eval a X.env) :: starEach [] X.env := by rfl) (hpl : (backTo pos (starEach [] X.env)).any (·.1) = false := by rfl) : PE X (.Call (.Name "tuple" p) [a] [] pos) (T X.K W (e1 tupleD f)) :=
  d_callTy1 call_tuple_of tupleD_ok hg hm (by decide +kernel) ha h1 (by decide) (by decide) hpl
theorem d_sum (hc : X.calm = true) (hm : X.mg "sum" = none) (ha : PE X a (T X.K W f)) (hg : Gl X "sum" := by rfl)
    (h1 : starEach [a] X.env = (false, eval a X.env) :: starEach [] X.env := by rfl) (hpl : (backTo pos (starEach [] X.env)).any (·.1) = false := by rfl) : PE X (.Call (.Name "sum" p) [a] [] pos) (T X.K W (e1 sumD f)) :=
  d_callB1 (cr_sum hc) sumD_ok hg hm (by decide +kernel) ha h1 (by decide) (by decide) hpl
theorem d_all (hc : X.calm = true) (hm : X.mg "all" = none) (ha : PE X a (T X.K W f)) (hg : Gl X "all" := by rfl)
    (h1 : starEach [a] X.env = (false, eval a X.env) :: starEach [] X.env := by rfl) (hpl : (backTo pos (starEach [] X.env)).any (·.1) = false := by rfl) : PE X (.Call (.Name "all" p) [a] [] pos) (T X.K W (e1 allD f)) :=
  d_callB1 (cr_all hc) allD_ok hg hm (by decide +kernel) ha h1 (by decide) (by decide) hpl
theorem d_any (hc : X.calm = true) (hm : X.mg "any" = none) (ha : PE X a (T X.K W f)) (hg : Gl X "any" := by rfl)
    (h1 : starEach [a] X.env = (false, eval a X.env) :: starEach [] X.env := by rfl) (hpl : (backTo pos (starEach [] X.env)).any (·.1) = false := by rfl) : PE X (.Call (.Name "any" p) [a] [] pos) (T X.K W (e1 anyD f)) :=
  d_callB1 (cr_any hc) anyD_ok hg hm (by decide +kernel) ha h1 (by decide) (by decide) hpl
theorem d_max2 (hc : X.calm = true) (hm : X.mg "max" = none) (ha : PE X a (T X.K W fa)) (hb : PE X b (T X.K W fb)) (hg : Gl X "max" := by rfl)
    (h1 : starEach [a, b] X.env = (false, eval a X.env) :: starEach [b] X.env := by rfl) (h2 : starEach [b] X.env = (false, eval b X.env) :: starEach [] X.env := by rfl) (hpl : (backTo pos (starEach [b] X.env)).any (·.1) = false := by rfl) :
    PE X (.Call (.Name "max" p) [a, b] [] pos) (T X.K W (e2 maxD fa fb)) :=
  d_callB2 (call_max2 hc) maxD_ok hg hm (by decide +kernel) ha hb h1 h2 (by decide) (by decide) hpl
theorem d_min2 (hc : X.calm = true) (hm : X.mg "min" = none) (ha : PE X a (T X.K W fa)) (hb : PE X b (T X.K W fb)) (hg : Gl X "min" := by rfl)
    (h1 : starEach [a, b] X.env = (false, eval a X.env) :: starEach [b] X.env := by rfl) (h2 : starEach [b] X.env = (false, eval b X.env) :: starEach [] X.env := by rfl) (hpl : (backTo pos (starEach [b] X.env)).any (·.1) = false := by rfl) :
    PE X (.Call (.Name "min" p) [a, b] [] pos) (T X.K W (e2 minD fa fb)) :=
  d_callB2 (call_min2 hc) minD_ok hg hm (by decide +kernel) ha hb h1 h2 (by decide) (by decide) hpl
end

/-! ### tests -/
abbrev Eb := Rho → Res Bool
def truD (x : D) : Option Bool := match x with
  | .non => some false
  | .bl b => some b
  | .int i => some (i != 0)
  | .str z => if z.length ≤ LINE then some ((z.length : Int) != 0) else none
  | .tup ds => some (!ds.isEmpty)
  | x => x.items.map fun ds => !ds.isEmpty
def tstE (f : Ev) : Eb := fun ρ => (f ρ).bind fun x => ofO (truD x)
def blO : D → Option Bool | .bl b => some b | _ => none
def tst0 (f : Ev) : Eb := fun ρ => (f ρ).bind fun x => ofO (blO x)
def notB (f : Eb) : Eb := fun ρ => (f ρ).bind fun b => .ok (!b)
def andB (f g : Eb) : Eb := fun ρ => (f ρ).bind fun b => if b = true then g ρ else .ok false
def orB (f g : Eb) : Eb := fun ρ => (f ρ).bind fun b => if b = true then .ok true else g ρ
def andE (f : Ev) (g : Ev) : Ev := fun ρ => (f ρ).bind fun x => (ofO (blO x)).bind fun b => if b = true then g ρ else .ok (.bl false)
def orE (f : Ev) (g : Ev) : Ev := fun ρ => (f ρ).bind fun x => (ofO (blO x)).bind fun b => if b = true then .ok (.bl true) else g ρ
def notE (f : Ev) : Ev := fun ρ => (f ρ).bind fun x => (ofO (truD x)).bind fun b => .ok (.bl (!b))
def ifE (c : Eb) (f g : Ev) : Ev := fun ρ => (c ρ).bind fun b => if b = true then f ρ else g ρ
theorem truD_ok {K : PySem.W.Frag} {S H : Hp} {v : V} {d : D} {k : Bool} (hs : Same S H) (r : Rr K S H v d) (h : truD d = some k) : TruV K v H k := by
  unfold truD at h
  split at h
  · cases r; cases h; rfl
  · cases r; cases h; rfl
  · cases r; cases h; rfl
  · cases r
    split at h
    · rename_i hl
      cases h
      exact ⟨by rw [line_eq]; exact hl, rfl⟩
    · cases h
  · cases r with
    | tup h1 q =>
      cases h
      rename_i ds
      refine .inr (.inl ⟨_, Same.seqT hs h1, ?_⟩)
      cases q <;> rfl
  · cases e : d.items with
    | none => rw [e] at h; cases h
    | some ds =>
      rw [e] at h
      cases h
      obtain ⟨a, xs, rfl, ha, q⟩ := r.items e
      refine .inl ⟨_, SqL.of ha, ?_⟩
      cases q <;> rfl
section
variable {X : Cx} {W : WX} {a b e : Expr} {fa fb f : Ev} {g h : Eb} {rest : List Expr} {pos : Pos}
theorem t_val (ha : PE X a (T X.K W f)) (he : ∀ whole, isTrue a X.env whole = (do let v ← whole; standAt a.pos; holding [v] (truthy v)) := by intro _; rfl) : PT X a (TB X.K W (tstE f)) :=
  PT.imp (pt_truth ha he) fun σ H Q h => by
    obtain ⟨S0, H0, S, ρ, R, p⟩ := h
    refine ⟨S0, H0, S, ρ, R, ?_⟩
    unfold tstE at p
    cases e : f ρ with
    | ok d =>
      rw [e] at p
      simp only [bind_ok] at p
      cases e2 : truD d with
      | none => rw [e2] at p; exact p.elim
      | some k =>
        rw [e2] at p
        exact fun v S' H' ex r => ⟨k, truD_ok ex.sh (r.rr ex.sh) e2, p S' H' ex⟩
    | err x => rw [e] at p; exact p
    | st => rw [e] at p; exact p
theorem t_cmp {op : CmpOp} {r : R2} {g : D → D → Option D} (ho : OpR X (compareOp op) r) (hg : Serves2 X.K g r) (hm : behindInMarks op b = false) (ha : PE X a (T X.K W fa)) (hb : PE X b (T X.K W fb)) : PT X (.Compare a [op] [b] pos) (TB X.K W (tst0 (e2 g fa fb))) :=
  PT.imp (pt_cmpR ho ha hb hm) fun σ H Q h => by
    obtain ⟨S0, H0, S, ρ, R, p⟩ := h
    show tOp r (T X.K W fa) (T X.K W fb) σ H fun x H' => ∃ k, x = .bl k ∧ Q k H'
    refine t_e2 hg ⟨S0, H0, S, ρ, R, ?_⟩
    unfold tst0 at p
    cases e : e2 g fa fb ρ with
    | ok d =>
      rw [e] at p
      simp only [bind_ok] at p
      cases d with
      | bl k => exact fun v S' H' ex r => by cases r; exact ⟨k, rfl, p S' H' ex⟩
      | _ => exact p.elim
    | err x => rw [e] at p; exact p
    | st => rw [e] at p; exact p
theorem t_eq (hu : X.A.units + 64 < cLine) (ha : PE X a (T X.K W fa)) (hb : PE X b (T X.K W fb)) : PT X (.Compare a [.Eq] [b] pos) (TB X.K W (tst0 (e2 eqD fa fb))) := t_cmp (op_eqD hu) eqD_ok (nomark _) ha hb
theorem t_ne (hu : X.A.units + 64 < cLine) (ha : PE X a (T X.K W fa)) (hb : PE X b (T X.K W fb)) : PT X (.Compare a [.NotEq] [b] pos) (TB X.K W (tst0 (e2 neD fa fb))) := t_cmp (op_neD hu) neD_ok (nomark _) ha hb
theorem t_lt (ha : PE X a (T X.K W fa)) (hb : PE X b (T X.K W fb)) : PT X (.Compare a [.Lt] [b] pos) (TB X.K W (tst0 (e2 ltD fa fb))) := t_cmp op_lt ltD_ok (nomark _) ha hb
theorem t_le (ha : PE X a (T X.K W fa)) (hb : PE X b (T X.K W fb)) : PT X (.Compare a [.LtE] [b] pos) (TB X.K W (tst0 (e2 leD fa fb))) := t_cmp op_le leD_ok (nomark _) ha hb
theorem t_gt (ha : PE X a (T X.K W fa)) (hb : PE X b (T X.K W fb)) : PT X (.Compare a [.Gt] [b] pos) (TB X.K W (tst0 (e2 gtD fa fb))) := t_cmp op_gt gtD_ok (nomark _) ha hb
theorem t_ge (ha : PE X a (T X.K W fa)) (hb : PE X b (T X.K W fb)) : PT X (.Compare a [.GtE] [b] pos) (TB X.K W (tst0 (e2 geD fa fb))) := t_cmp op_ge geD_ok (nomark _) ha hb
theorem t_is (ha : PE X a (T X.K W fa)) (hb : PE X b (T X.K W fb)) : PT X (.Compare a [.Is] [b] pos) (TB X.K W (tst0 (e2 isD fa fb))) := t_cmp op_isD isD_ok (nomark _) ha hb
theorem t_notIs (ha : PE X a (T X.K W fa)) (hb : PE X b (T X.K W fb)) : PT X (.Compare a [.IsNot] [b] pos) (TB X.K W (tst0 (e2 notIsD fa fb))) := t_cmp op_notIsD notIsD_ok (nomark _) ha hb
theorem t_not (ha : PT X a (TB X.K W g)) : PT X (.UnaryOp .Not a pos) (TB X.K W (notB g)) := PT.imp (pt_not ha) fun σ H Q h => by
  obtain ⟨S0, H0, S, ρ, R, p⟩ := h
  refine ⟨S0, H0, S, ρ, R, ?_⟩
  unfold notB at p
  cases e : g ρ with
  | ok b => rw [e] at p; exact p
  | err x => rw [e] at p; exact p
  | st => rw [e] at p; exact p
theorem w_and1 (ha : PT X a (TB X.K W g)) : PW X (.BoolOp .And [a] pos) (TB X.K W g) := pw_and1 ha
theorem w_or1 (ha : PT X a (TB X.K W g)) : PW X (.BoolOp .Or [a] pos) (TB X.K W g) := pw_or1 ha
theorem w_and (ha : PT X a (TB X.K W g)) (hb : PW X (.BoolOp .And (b :: rest) pos) (TB X.K W h)) : PW X (.BoolOp .And (a :: b :: rest) pos) (TB X.K W (andB g h)) := PW.imp (pw_and ha hb) fun σ H Q q => by
  obtain ⟨S0, H0, S, ρ, R, p⟩ := q
  refine ⟨S0, H0, S, ρ, R, ?_⟩
  unfold andB at p
  cases e : g ρ with
  | ok b =>
    rw [e] at p
    cases b with
    | true => exact fun S' H' ex => ⟨S0, H0, S', ρ, R.ext ex, p.ext ex⟩
    | false => exact fun S' H' ex => p S' H' ex
  | err x => rw [e] at p; exact p
  | st => rw [e] at p; exact p
theorem w_or (ha : PT X a (TB X.K W g)) (hb : PW X (.BoolOp .Or (b :: rest) pos) (TB X.K W h)) : PW X (.BoolOp .Or (a :: b :: rest) pos) (TB X.K W (orB g h)) := PW.imp (pw_or ha hb) fun σ H Q q => by
  obtain ⟨S0, H0, S, ρ, R, p⟩ := q
  refine ⟨S0, H0, S, ρ, R, ?_⟩
  unfold orB at p
  cases e : g ρ with
  | ok b =>
    rw [e] at p
    cases b with
    | true => exact fun S' H' ex => p S' H' ex
    | false => exact fun S' H' ex => ⟨S0, H0, S', ρ, R.ext ex, p.ext ex⟩
  | err x => rw [e] at p; exact p
  | st => rw [e] at p; exact p
theorem t_w (h : PW X e (TB X.K W g)) : PT X e (TB X.K W g) := h.pt
theorem d_one {op} (h : PE X a (T X.K W f)) : PE X (.BoolOp op [a] pos) (T X.K W f) := pe_one h
theorem d_and (ha : PE X a (T X.K W fa)) (hb : PE X (.BoolOp .And (b :: rest) pos) (T X.K W fb)) : PE X (.BoolOp .And (a :: b :: rest) pos) (T X.K W (andE fa fb)) := PE.imp (pe_and ha hb) fun σ H Q q => by
  obtain ⟨S0, H0, S, ρ, R, p⟩ := q
  refine ⟨S0, H0, S, ρ, R, ?_⟩
  unfold andE at p
  cases e : fa ρ with
  | ok d =>
    rw [e] at p
    cases d with
    | bl b =>
      refine fun v S' H' ex r => ?_
      cases r
      refine ⟨b, rfl, ?_⟩
      cases b with
      | true => exact ⟨S0, H0, S', ρ, R.ext ex, p.ext ex⟩
      | false => exact p _ S' H' ex (.bl false)
    | _ => exact p.elim
  | err x => rw [e] at p; exact p
  | st => rw [e] at p; exact p
theorem d_or (ha : PE X a (T X.K W fa)) (hb : PE X (.BoolOp .Or (b :: rest) pos) (T X.K W fb)) : PE X (.BoolOp .Or (a :: b :: rest) pos) (T X.K W (orE fa fb)) := PE.imp (pe_or ha hb) fun σ H Q q => by
  obtain ⟨S0, H0, S, ρ, R, p⟩ := q
  refine ⟨S0, H0, S, ρ, R, ?_⟩
  unfold orE at p
  cases e : fa ρ with
  | ok d =>
    rw [e] at p
    cases d with
    | bl b =>
      refine fun v S' H' ex r => ?_
      cases r
      refine ⟨b, rfl, ?_⟩
      cases b with
      | true => exact p _ S' H' ex (.bl true)
      | false => exact ⟨S0, H0, S', ρ, R.ext ex, p.ext ex⟩
    | _ => exact p.elim
  | err x => rw [e] at p; exact p
  | st => rw [e] at p; exact p
theorem d_not (ha : PE X a (T X.K W f)) : PE X (.UnaryOp .Not a pos) (T X.K W (notE f)) := PE.imp (pe_notT ha) fun σ H Q h => by
  obtain ⟨S0, H0, S, ρ, R, p⟩ := h
  refine ⟨S0, H0, S, ρ, R, ?_⟩
  unfold notE at p
  cases e : f ρ with
  | ok d =>
    rw [e] at p
    simp only [bind_ok] at p
    cases e2 : truD d with
    | none => rw [e2] at p; exact p.elim
    | some k =>
      rw [e2] at p
      exact fun v S' H' ex r => ⟨k, truD_ok ex.sh (r.rr ex.sh) e2, p _ S' H' ex (.bl _)⟩
  | err x => rw [e] at p; exact p
  | st => rw [e] at p; exact p
theorem d_if {c : Expr} (hc : PT X c (TB X.K W g)) (ha : PE X a (T X.K W fa)) (hb : PE X b (T X.K W fb)) : PE X (.IfExp c a b pos) (T X.K W (ifE g fa fb)) := PE.imp (pe_ifExp hc ha hb) fun σ H Q h => by
  obtain ⟨S0, H0, S, ρ, R, p⟩ := h
  refine ⟨S0, H0, S, ρ, R, ?_⟩
  unfold ifE at p
  cases e : g ρ with
  | ok b =>
    rw [e] at p
    cases b with
    | true => exact fun S' H' ex => ⟨S0, H0, S', ρ, R.ext ex, p.ext ex⟩
    | false => exact fun S' H' ex => ⟨S0, H0, S', ρ, R.ext ex, p.ext ex⟩
  | err x => rw [e] at p; exact p
  | st => rw [e] at p; exact p
end
end DL

namespace DL
open PySem L2

/-! ### statements -/
inductive Out where
  | nx (ρ : Rho) | rt (d : D) | bk (ρ : Rho) | ct (ρ : Rho) | er (x : Ex) (ρ : Rho) | st
abbrev Es := Rho → Out
def PostS (K : PySem.W.Frag) (W : WX) (S0 H0 : Hp) (D : Ends) : Out → Prop
  | .nx ρ => ∀ σ S H, Rel K S0 H0 S H σ ρ → D.nx σ H
  | .bk ρ => ∀ σ S H, Rel K S0 H0 S H σ ρ → D.bk σ H
  | .ct ρ => ∀ σ S H, Rel K S0 H0 S H σ ρ → D.ct σ H
  | .rt d => ∀ v S H, Ext S0 H0 S H → Rp K S v d → D.rt v H
  | .er x ρ => ∀ dd σ S H, Rel K S0 H0 S H σ ρ → XAt x dd H → W x.cls dd σ H
  | .st => False
def TSt (K : PySem.W.Frag) (W : WX) (f : Es) : TS := fun D σ H => ∃ S0 H0 S ρ, Rel K S0 H0 S H σ ρ ∧ PostS K W S0 H0 D (f ρ)
/-- an expression's result, used by a statement -/
def Res.then (r : Res D) (ρ : Rho) (g : D → Out) : Out := match r with
  | .ok d => g d
  | .err x => .er x ρ
  | .st => .st
@[simp] theorem then_ok (d : D) (ρ : Rho) (g : D → Out) : (Res.ok d).then ρ g = g d := rfl
@[simp] theorem then_err (x : Ex) (ρ : Rho) (g : D → Out) : (Res.err x : Res D).then ρ g = .er x ρ := rfl
@[simp] theorem then_st (ρ : Rho) (g : D → Out) : (Res.st : Res D).then ρ g = .st := rfl
section
variable {K : PySem.W.Frag} {W : WX} {S0 H0 S H : Hp} {σ : St} {ρ : Rho} {D0 : Ends}
theorem PostX.of (R : Rel K S0 H0 S H σ ρ) {x : Ex} (p : PostS K W S0 H0 D0 (.er x ρ)) : PostX W S H σ x := fun dd S' H' e h => p dd σ S' H' (R.ext e) h
/-- an expression whose result goes on by g -/
theorem t_then {f : Ev} {g : D → Out} {Q : VK} (R : Rel K S0 H0 S H σ ρ) (p : PostS K W S0 H0 D0 ((f ρ).then ρ g))
    (hg : ∀ d v S' H', Ext S H S' H' → Rel K S0 H0 S' H' σ ρ → Rv K H S' H' v d → PostS K W S0 H0 D0 (g d) → Q v H') : T K W f σ H Q := by
  refine ⟨S0, H0, S, ρ, R, ?_⟩
  cases e : f ρ with
  | ok d => rw [e] at p; exact fun v S' H' ex r => hg d v S' H' ex (R.ext ex) r p
  | err x => rw [e] at p; exact PostX.of R p
  | st => rw [e] at p; exact p.elim
theorem t_thenS {f : Ev} {g : D → Out} {Q : VK} (R : Rel K S0 H0 S H σ ρ) (p : PostS K W S0 H0 D0 ((stE f ρ).then ρ g))
    (hg : ∀ d v S' H', Ext S H S' H' → Rel K S0 H0 S' H' σ ρ → Rp K S' v d → PostS K W S0 H0 D0 (g d) → Q v H') : T K W f σ H Q := by
  refine t_stE ⟨S0, H0, S, ρ, R, ?_⟩
  cases e : stE f ρ with
  | ok d =>
    rw [e] at p
    obtain ⟨d0, _, hd⟩ := stE_ok e
    exact fun v S' H' ex r => hg d v S' H' ex (R.ext ex) (settle_rp hd r) p
  | err x => rw [e] at p; exact PostX.of R p
  | st => rw [e] at p; exact p.elim
end

def skipS : Es := fun ρ => .nx ρ
def seqS (f g : Es) : Es := fun ρ => match f ρ with
  | .nx ρ' => g ρ'
  | o => o
def asgS (i : Nat) (f : Ev) : Es := fun ρ => (stE f ρ).then ρ fun d => .nx (ρ.set i (.v d))
def ownS (i : Nat) (f : Ev) : Es := fun ρ => (f ρ).then ρ fun d => match d with
  | .new ds => .nx (ρ.set i (.own ds))
  | _ => .st
def dropS (f : Ev) : Es := fun ρ => (f ρ).then ρ fun _ => .nx ρ
def retS (f : Ev) : Es := fun ρ => (stE f ρ).then ρ fun d => .rt d
def retN : Es := fun _ => .rt .non
def retOwn (i : Nat) : Es := fun ρ => match ρ[i]? with
  | some (.own ds) => .rt (.lst ds)
  | _ => .st
def ifS (c : Eb) (f g : Es) : Es := fun ρ => match c ρ with
  | .ok b => if b = true then f ρ else g ρ
  | .err x => .er x ρ
  | .st => .st
def brkS : Es := fun ρ => .bk ρ
def cntS : Es := fun ρ => .ct ρ
def setAll : List Nat → List D → Rho → Option Rho
  | [], [], ρ => some ρ
  | i :: is, d :: ds, ρ => setAll is ds (ρ.set i (.v d))
  | _, _, _ => none
def unpD : D → Option (List D)
  | .tup ds => some ds
  | _ => none
def unpS (is : List Nat) (f : Ev) : Es := fun ρ => (stE f ρ).then ρ fun d => match (unpD d).bind fun ds => setAll is ds ρ with
  | some ρ' => .nx ρ'
  | none => .st
def par2S (i j : Nat) (fs : Ea) : Es := fun ρ => match fs ρ with
  | .ok [a, b] => .nx ((ρ.set i (.v a)).set j (.v b))
  | .err x => .er x ρ
  | _ => .st
def frzS (i : Nat) (f : Es) : Es := fun ρ => match ρ[i]? with
  | some (.own ds) => f (ρ.set i (.v (.lst ds)))
  | _ => f ρ
def appS (i : Nat) (f : Ev) : Es := fun ρ => match ρ[i]? with
  | some (.own ds) => (stE f ρ).then ρ fun d => if ds.length < LINE then .nx (ρ.set i (.own (ds ++ [d]))) else .st
  | _ => .st
def setS (i : Nat) (fk fe : Ev) : Es := fun ρ => match ρ[i]? with
  | some (.own ds) => (stE fe ρ).then ρ fun d => (fk ρ).then ρ fun k => (match k with
    | .int k => (match ixN ds.length k with
      | some j => .nx (ρ.set i (.own (ds.set j d)))
      | none => .st)
    | _ => .st)
  | _ => .st
def popS (i : Nat) : Es := fun ρ => match ρ[i]? with
  | some (.own ds) => if ds.isEmpty then .st else .nx (ρ.set i (.own ds.dropLast))
  | _ => .st
def clrS (i : Nat) : Es := fun ρ => match ρ[i]? with
  | some (.own ds) => .nx (ρ.set i (.own []))
  | _ => .st
def augS (i : Nat) (f : Ev) : Es := fun ρ => match ρ[i]? with
  | some (.v (.int a)) => (f ρ).then ρ fun d => (match d with
    | .int b => .nx (ρ.set i (.v (.int (a + b))))
    | _ => .st)
  | _ => .st
section
variable {X : Cx} {W : WX} {a b e : Expr} {fa fb f : Ev} {fs : Ea} {g h : Es} {c : Eb} {st : Stmt} {sts : List Stmt} {pos : Pos}
theorem s_one (h1 : PS X st (TSt X.K W g)) : PSs X [st] (TSt X.K W g) := pss_one h1
theorem s_cons (h1 : PS X st (TSt X.K W g)) (h2 : PSs X sts (TSt X.K W h)) : PSs X (st :: sts) (TSt X.K W (seqS g h)) := PSs.imp (pss_cons h1 h2) fun D σ H q => by
  obtain ⟨S0, H0, S, ρ, R, p⟩ := q
  refine ⟨S0, H0, S, ρ, R, ?_⟩
  unfold seqS at p
  cases e : g ρ with
  | nx ρ' => rw [e] at p; exact fun σ' S' H' R' => ⟨S0, H0, S', ρ', R', p⟩
  | rt d => rw [e] at p; exact p
  | bk ρ' => rw [e] at p; exact p
  | ct ρ' => rw [e] at p; exact p
  | er x ρ' => rw [e] at p; exact p
  | st => rw [e] at p; exact p
theorem s_nil : PSs X [] (TSt X.K W skipS) := PSs.imp pss_nil fun D σ H q => by
  obtain ⟨S0, H0, S, ρ, R, p⟩ := q
  exact p σ S H R
theorem s_pass : PS X (.Pass pos) (TSt X.K W skipS) := PS.imp ps_pass fun D σ H q => by
  obtain ⟨S0, H0, S, ρ, R, p⟩ := q
  exact p σ S H R
theorem s_brk : PS X (.Break pos) (TSt X.K W brkS) := PS.imp ps_break fun D σ H q => by
  obtain ⟨S0, H0, S, ρ, R, p⟩ := q
  exact p σ S H R
theorem s_cnt : PS X (.Continue pos) (TSt X.K W cntS) := PS.imp ps_continue fun D σ H q => by
  obtain ⟨S0, H0, S, ρ, R, p⟩ := q
  exact p σ S H R
theorem s_if {c' : Expr} {a b : List Stmt} (hc : PT X c' (TB X.K W c)) (ha : PSs X a (TSt X.K W g)) (hb : PSs X b (TSt X.K W h)) : PS X (.If c' a b pos) (TSt X.K W (ifS c g h)) := PS.imp (ps_if hc ha hb) fun D σ H q => by
  obtain ⟨S0, H0, S, ρ, R, p⟩ := q
  refine ⟨S0, H0, S, ρ, R, ?_⟩
  unfold ifS at p
  cases e : c ρ with
  | ok b =>
    rw [e] at p
    cases b with
    | true => exact fun S' H' ex => ⟨S0, H0, S', ρ, R.ext ex, p⟩
    | false => exact fun S' H' ex => ⟨S0, H0, S', ρ, R.ext ex, p⟩
  | err x => rw [e] at p; exact PostX.of R p
  | st => rw [e] at p; exact p.elim
theorem s_ret (ha : PE X a (T X.K W f)) : PS X (.Return (some a) pos) (TSt X.K W (retS f)) := PS.imp (ps_ret ha) fun D σ H q => by
  obtain ⟨S0, H0, S, ρ, R, p⟩ := q
  exact t_thenS R p fun d v S' H' ex R' r p => p v S' H' R'.ex r
theorem s_retN : PS X (.Return none pos) (TSt X.K W retN) := PS.imp ps_retN fun D σ H q => by
  obtain ⟨S0, H0, S, ρ, R, p⟩ := q
  exact p .non S H R.ex .non
theorem s_retOwn {i : Nat} {x : Str} {pos' : Pos} (hN : X.N[i]? = some x) (hv : Vis X.env.scope x) (hd : (x == ("__debug__" : Str)) = false := by decide) (hcd : (x == ("__classdict__" : Str)) = false := by decide) :
    PS X (.Return (some (.Name x pos')) pos) (TSt X.K W (retOwn i)) := PS.imp (ps_ret (pe_var hN hv hd hcd)) fun D σ H q => by
  obtain ⟨S0, H0, S, ρ, R, p⟩ := q
  unfold retOwn at p
  cases e : ρ[i]? with
  | none => rw [e] at p; exact p.elim
  | some s =>
    rw [e] at p
    cases s with
    | own ds =>
      obtain ⟨x, h1, l, xs, rfl, h2, h3, h4, h5⟩ := R.at_ i _ e
      obtain ⟨S', R', ss⟩ := R.freeze e
      have hl : i < ρ.length := (List.getElem?_eq_some_iff.mp e).1
      obtain ⟨y, g1, v, g2, g3⟩ := R'.at_ i _ (List.getElem?_set_self hl)
      rw [h1] at g1
      cases g1
      cases g2
      exact ⟨_, h1, p _ S' H R'.ex g3⟩
    | un => exact p.elim
    | exc a => exact p.elim
    | v d => exact p.elim
theorem s_expr (ha : PE X a (T X.K W f)) (hs : swapsWith a none pos.line X.env = pure false := by rfl) : PS X (.Expr a pos) (TSt X.K W (dropS f)) := PS.imp (ps_expr ha hs) fun D σ H q => by
  obtain ⟨S0, H0, S, ρ, R, p⟩ := q
  exact t_then R p fun d v S' H' ex R' r p => p σ S' H' R'
theorem s_asg {i : Nat} {x : Str} {pos' : Pos} (hN : X.N.Nodup) (hi : X.N[i]? = some x) (hx : Loc X.env.scope x) (ha : PE X a (T X.K W f)) (hs : swapsWith a (some (.Name x pos')) pos.line X.env = pure false := by rfl)
    (hf : X.fn x = true ∨ X.env.scope.names.lookup x = some .local := by first | exact .inl rfl | exact .inr rfl | assumption) : PS X (.Assign [.Name x pos'] a pos) (TSt X.K W (asgS i f)) := PS.imp (ps_set hN hi hx ha hs hf) fun D σ H q => by
  obtain ⟨S0, H0, S, ρ, R, p⟩ := q
  exact t_thenS R p fun d v S' H' ex R' r p => p _ S' H' (R'.set (s := .v d) ⟨v, rfl, r⟩ fun _ z => by cases z)
theorem Rel.setNew {K : PySem.W.Frag} {S0 H0 S H S' H' : Hp} {σ : St} {ρ : Rho} (R : Rel K S0 H0 S H σ ρ) (ex : Ext S H S' H') {i : Nat} {v : V} {ds : List D} (r : Rv K H S' H' v (.new ds)) : Rel K S0 H0 S' H' (σ.set i (some v)) (ρ.set i (.own ds)) := by
  obtain ⟨a, xs, rfl, h1, h2, h3, h4⟩ := r
  refine (R.ext ex).setOwn (R.ex.hh.free h1) h2 h3 h4 fun j es e1 e2 => ?_
  obtain ⟨y, g1, l, zs, rfl, k1, k2, k3, k4⟩ := R.at_ j _ e1
  rw [g1] at e2
  cases e2
  rw [h1] at k3; cases k3
theorem s_own {i : Nat} {x : Str} {pos' : Pos} (hN : X.N.Nodup) (hi : X.N[i]? = some x) (hx : Loc X.env.scope x) (ha : PE X a (T X.K W f)) (hs : swapsWith a (some (.Name x pos')) pos.line X.env = pure false := by rfl)
    (hf : X.fn x = true ∨ X.env.scope.names.lookup x = some .local := by first | exact .inl rfl | exact .inr rfl | assumption) : PS X (.Assign [.Name x pos'] a pos) (TSt X.K W (ownS i f)) := PS.imp (ps_set hN hi hx ha hs hf) fun D σ H q => by
  obtain ⟨S0, H0, S, ρ, R, p⟩ := q
  refine t_then R p fun d v S' H' ex R' r p => ?_
  cases d with
  | new ds => exact p _ S' H' (R.setNew ex r)
  | _ => exact p.elim
theorem s_frz {i : Nat} (h1 : PS X st (TSt X.K W g)) : PS X st (TSt X.K W (frzS i g)) := PS.imp h1 fun D σ H q => by
  obtain ⟨S0, H0, S, ρ, R, p⟩ := q
  unfold frzS at p
  cases e : ρ[i]? with
  | none => rw [e] at p; exact ⟨S0, H0, S, ρ, R, p⟩
  | some s =>
    rw [e] at p
    cases s with
    | own ds =>
      obtain ⟨S', R', _⟩ := R.freeze e
      exact ⟨S0, H0, S', _, R', p⟩
    | un => exact ⟨S0, H0, S, ρ, R, p⟩
    | exc a => exact ⟨S0, H0, S, ρ, R, p⟩
    | v d => exact ⟨S0, H0, S, ρ, R, p⟩
/-! targets -/
def GOk (K : PySem.W.Frag) (g : TG) (G : D → Rho → Option Rho) : Prop := ∀ (S0 H0 S H : Hp) (σ : St) (ρ : Rho) (x : V) (d : D) (ρ' : Rho) (Q : St → Hp → Prop), Rel K S0 H0 S H σ ρ → Rp K S x d → G d ρ = some ρ' →
  (∀ σ', Rel K S0 H0 S H σ' ρ' → Q σ' H) → g x σ H Q
def gN (i : Nat) : D → Rho → Option Rho := fun d ρ => some (ρ.set i (.v d))
def gU (is : List Nat) : D → Rho → Option Rho := fun d ρ => (unpD d).bind fun ds => setAll is ds ρ
theorem gN_ok {K : PySem.W.Frag} {i : Nat} : GOk K (gName i) (gN i) := by
  intro S0 H0 S H σ ρ x d ρ' Q R r e q
  cases e
  exact q _ (R.set (s := .v d) ⟨x, rfl, r⟩ fun _ z => by cases z)
def gsN : List Nat → TGs
  | [] => gNil
  | i :: r => gCons (gName i) (gsN r)
theorem gsN_ok {K : PySem.W.Frag} {S0 H0 S H : Hp} {Q : St → Hp → Prop} : ∀ {is : List Nat} {ds : List D} {vs : List V} {σ : St} {ρ ρ' : Rho}, Rel K S0 H0 S H σ ρ → RpAll K S vs ds → setAll is ds ρ = some ρ' →
    (∀ σ', Rel K S0 H0 S H σ' ρ' → Q σ' H) → gsN is vs σ H Q
  | [], [], _, σ, ρ, ρ', R, .nil, e, q => by
    cases e
    exact ⟨rfl, q σ R⟩
  | i :: is, d :: ds, _, σ, ρ, ρ', R, .cons (v := v) h r, e, q => by
    rw [setAll] at e
    refine ⟨v, _, rfl, ?_⟩
    exact gsN_ok (R.set (s := .v d) ⟨v, rfl, h⟩ fun _ z => by cases z) r e q
  | [], _ :: _, _, _, _, _, _, _, e, _ => by cases e
  | _ :: _, [], _, _, _, _, _, _, e, _ => by cases e
theorem setAll_length : ∀ {is : List Nat} {ds : List D} {ρ ρ' : Rho}, setAll is ds ρ = some ρ' → ds.length = is.length
  | [], [], _, _, _ => rfl
  | _ :: _, _ :: _, _, _, e => by
    rw [setAll] at e
    rw [List.length_cons, List.length_cons, setAll_length e]
  | [], _ :: _, _, _, e => by cases e
  | _ :: _, [], _, _, e => by cases e
theorem gU_ok {K : PySem.W.Frag} {is : List Nat} : GOk K (gTup K is.length (gsN is)) (gU is) := by
  intro S0 H0 S H σ ρ x d ρ' Q R r e q
  unfold gU at e
  cases d with
  | tup ds =>
    simp only [unpD, Option.bind_some] at e
    cases r with
    | tup h1 r1 => exact ⟨_, _, rfl, Same.seqT R.sh h1, by rw [r1.length, setAll_length e], gsN_ok R r1 e q⟩
  | _ => cases e
theorem s_unp {is : List Nat} {tg : Expr} {tpos : Pos} (ha : PE X a (T X.K W f)) (hg : PG X tg (gTup X.K is.length (gsN is))) (hs : swapsWithSole [tg] a pos.line X.env = pure false := by rfl) (hw : swappedStores [tg] a X.env = pure none := by rfl)
    (h1 : (assignEach [tg] X.env).map (·.2) = [assign tg X.env] := by rfl) : PS X (.Assign [tg] a pos) (TSt X.K W (unpS is f)) := PS.imp (ps_asg ha hg hs hw h1) fun D σ H q => by
  obtain ⟨S0, H0, S, ρ, R, p⟩ := q
  refine t_thenS R p fun d v S' H' ex R' r p => ?_
  cases e : (unpD d).bind fun ds => setAll is ds ρ with
  | none => rw [e] at p; exact p.elim
  | some ρ' =>
    rw [e] at p
    exact gU_ok S0 H0 S' H' σ ρ v d ρ' _ R' r e fun σ' R2 => p σ' S' H' R2
theorem s_par2 {i j : Nat} {x y : Str} {px py pt : Pos} {kt k2 : Nat} {pt2 : Pos} (hc : X.calm = true) (hN : X.N.Nodup) (hi : X.N[i]? = some x) (hj : X.N[j]? = some y) (hij : i ≠ j)
    (hx : X.env.scope.names.lookup x = some .local) (hy : X.env.scope.names.lookup y = some .local) (ha : PA X [a, b] (TAs X.K W fs))
    (hw : swappedStores [.Tuple [.Name x px, .Name y py] kt pt] (.Tuple [a, b] k2 pt2) X.env = pure (some [x, y]))
    (hs : swapsWithSole [.Tuple [.Name x px, .Name y py] kt pt] (.Tuple [a, b] k2 pt2) pos.line X.env = pure false := by rfl) :
    PS X (.Assign [.Tuple [.Name x px, .Name y py] kt pt] (.Tuple [a, b] k2 pt2) pos) (TSt X.K W (par2S i j fs)) := PS.imp (ps_par hc hN hi hj hij hx hy ha hw hs) fun D σ H q => by
  obtain ⟨S0, H0, S, ρ, R, p⟩ := q
  refine ⟨S0, H0, S, ρ, R, ?_⟩
  unfold par2S at p
  cases e : fs ρ with
  | ok ds =>
    rw [e] at p
    match ds, p with
    | [d1, d2], p =>
      intro vs S' H' ex r
      cases r with
      | cons r1 r =>
        cases r with
        | cons r2 r =>
          cases r
          refine ⟨_, _, rfl, p _ S' H' ?_⟩
          exact ((R.ext ex).set (s := .v d1) ⟨_, rfl, r1⟩ fun _ z => by cases z).set (s := .v d2) ⟨_, rfl, r2⟩ fun _ z => by cases z
    | [], p => exact p.elim
    | [_], p => exact p.elim
    | _ :: _ :: _ :: _, p => exact p.elim
  | err x => rw [e] at p; exact PostX.of R p
  | st => rw [e] at p; exact p.elim
/-! the def's own lists -/
theorem Rel.ownAt {K : PySem.W.Frag} {S0 H0 S H : Hp} {σ : St} {ρ : Rho} (R : Rel K S0 H0 S H σ ρ) {i : Nat} {ds : List D} (e : ρ[i]? = some (.own ds)) : ∃ l xs, σ[i]? = some (some (.ref l)) ∧ H l = some (.lst xs) ∧ RpAll K S xs ds := by
  obtain ⟨x, h1, l, xs, rfl, h2, h3, h4, h5⟩ := R.at_ i _ e
  exact ⟨l, xs, h1, h4, h5⟩
theorem s_app {i : Nat} (h1 : PE X e (tBM X.K "list" rAppend (tVar i) (tCons (T X.K W f) tNil))) (hs : swapsWith e none pos.line X.env = pure false := by rfl) : PS X (.Expr e pos) (TSt X.K W (appS i f)) :=
  PS.imp (ps_expr h1 hs) fun D σ H q => by
    obtain ⟨S0, H0, S, ρ, R, p⟩ := q
    unfold appS at p
    cases e : ρ[i]? with
    | none => rw [e] at p; exact p.elim
    | some s =>
      rw [e] at p
      cases s with
      | own ds =>
        obtain ⟨l, xs, h1, h2, h3⟩ := R.ownAt e
        refine ⟨_, h1, .inl ⟨rfl, _, SqL.of h2⟩, ?_⟩
        refine t_thenS R p fun d v S' H' ex R' r p => ?_
        obtain ⟨l', ys, g1, g2, g3⟩ := R'.ownAt e
        rw [h1] at g1
        cases g1
        split at p
        · rename_i hl
          exact ⟨l, ys, v, rfl, rfl, g2, by rw [g3.length, line_eq]; exact hl, p _ _ _ (R'.upd e h1 (g3.append (.cons r .nil)))⟩
        · exact p.elim
      | un => exact p.elim
      | exc a => exact p.elim
      | v d => exact p.elim
theorem s_set {i : Nat} (h1 : PS X st (tAsg (T X.K W fb) (gSub (tVar i) (T X.K W fa) rSetL))) : PS X st (TSt X.K W (setS i fa fb)) :=
  PS.imp h1 fun D σ H q => by
    obtain ⟨S0, H0, S, ρ, R, p⟩ := q
    unfold setS at p
    cases e : ρ[i]? with
    | none => rw [e] at p; exact p.elim
    | some s =>
      rw [e] at p
      cases s with
      | own ds =>
        obtain ⟨l, xs, h1, h2, h3⟩ := R.ownAt e
        refine t_thenS R p fun d v S' H' ex R' r p => ⟨_, h1, ?_⟩
        refine t_then R' p fun k u S2 H2 ex2 R2 r2 p => ?_
        cases k with
        | int k =>
          cases r2
          cases ej : ixN ds.length k with
          | none => simp only [ej] at p; exact p.elim
          | some j =>
            simp only [ej] at p
            obtain ⟨l', ys, g1, g2, g3⟩ := R2.ownAt e
            rw [h1] at g1
            cases g1
            exact ⟨l, ys, k, j, rfl, rfl, g2, by rw [g3.length]; exact ej, p _ _ _ (R2.upd e h1 (g3.set (r.mono ex2.ss) j))⟩
        | _ => exact p.elim
      | un => exact p.elim
      | exc a => exact p.elim
      | v d => exact p.elim
theorem s_pop {i : Nat} (h1 : PE X e (tBM0 X.K "list" rPop (tVar i))) (hs : swapsWith e none pos.line X.env = pure false := by rfl) : PS X (.Expr e pos) (TSt X.K W (popS i)) :=
  PS.imp (ps_expr h1 hs) fun D σ H q => by
    obtain ⟨S0, H0, S, ρ, R, p⟩ := q
    unfold popS at p
    cases e : ρ[i]? with
    | none => rw [e] at p; exact p.elim
    | some s =>
      rw [e] at p
      cases s with
      | own ds =>
        obtain ⟨l, xs, h1, h2, h3⟩ := R.ownAt e
        have hl := h3.length
        cases ds with
        | nil => exact p.elim
        | cons d0 dr =>
          have hp : 0 < xs.length := by rw [hl]; simp
          exact ⟨_, h1, .inl ⟨rfl, _, SqL.of h2⟩, l, xs, xs[xs.length - 1]'(by omega), rfl, rfl, h2, List.getElem?_eq_getElem (by omega), p _ _ _ (R.upd e h1 h3.dropLast)⟩
      | un => exact p.elim
      | exc a => exact p.elim
      | v d => exact p.elim
theorem s_clr {i : Nat} (h1 : PE X e (tBM0 X.K "list" rClear (tVar i))) (hs : swapsWith e none pos.line X.env = pure false := by rfl) : PS X (.Expr e pos) (TSt X.K W (clrS i)) :=
  PS.imp (ps_expr h1 hs) fun D σ H q => by
    obtain ⟨S0, H0, S, ρ, R, p⟩ := q
    unfold clrS at p
    cases e : ρ[i]? with
    | none => rw [e] at p; exact p.elim
    | some s =>
      rw [e] at p
      cases s with
      | own ds =>
        obtain ⟨l, xs, h1, h2, h3⟩ := R.ownAt e
        exact ⟨_, h1, .inl ⟨rfl, _, SqL.of h2⟩, l, xs, rfl, rfl, h2, p _ _ _ (R.upd e h1 .nil)⟩
      | un => exact p.elim
      | exc a => exact p.elim
      | v d => exact p.elim
theorem s_aug {i : Nat} {x : Str} {pos' : Pos} (hN : X.N.Nodup) (hi : X.N[i]? = some x) (hx : Loc X.env.scope x) (ha : PE X a (T X.K W f)) (hf : X.fn x = true ∨ X.env.scope.names.lookup x = some .local := by first | exact .inl rfl | exact .inr rfl | assumption) :
    PS X (.AugAssign (.Name x pos') .Add a pos) (TSt X.K W (augS i f)) := PS.imp (ps_aug hN hi hx ha ip_add hf) fun D σ H q => by
  obtain ⟨S0, H0, S, ρ, R, p⟩ := q
  unfold augS at p
  cases e : ρ[i]? with
  | none => rw [e] at p; exact p.elim
  | some s =>
    rw [e] at p
    cases s with
    | v d =>
      cases d with
      | int j =>
        obtain ⟨x, h1, v, rfl, h2⟩ := R.at_ i _ e
        cases h2
        refine ⟨_, h1, t_then R p fun d v S' H' ex R' r p => ?_⟩
        cases d with
        | int k =>
          cases r
          exact ⟨_, _, rfl, rfl, p _ _ _ (R'.set (s := .v (.int (j + k))) ⟨_, rfl, .int _⟩ fun _ z => by cases z)⟩
        | _ => exact p.elim
      | _ => exact p.elim
    | un => exact p.elim
    | exc a => exact p.elim
    | own ds => exact p.elim
end
end DL

namespace DL
open PySem L2

/-! ### what is walked -/
/-- J gives the data ds one by one while what is stable in S stays -/
def ItOk (K : PySem.W.Frag) (J : It) (S : Hp) (ds : List D) : Prop := ∃ (G : Hp → Prop) (Y : Nat → Hp → V → Hp → Prop), Walk J ds.length G Y ∧ (∀ H, Same S H → G H) ∧
  ∀ (i : Nat) (H : Hp) (x : V) (H' : Hp) (d : D) (S2 : Hp), Y i H x H' → ds[i]? = some d → Same S S2 → Same S2 H → ∃ S3, Ext S2 H S3 H' ∧ Rp K S3 x d
def TIs (K : PySem.W.Frag) (W : WX) (f : Ea) : TI := fun σ H R => ∃ S0 H0 S ρ, Rel K S0 H0 S H σ ρ ∧ (match f ρ with
  | .ok ds => ∀ J S1 H1, Ext S H S1 H1 → ItOk K J S1 ds → R J H1
  | .err x => PostX W S H σ x
  | .st => False)
theorem PI.imp {X : Cx} {tg e : Expr} {t t' : TI} (h : PI X tg e t) (hi : ∀ σ H R, t' σ H R → t σ H R) : PI X tg e t' := ⟨fun pins s σ H R I q => h.run pins s σ H R I (hi _ _ _ q)⟩
def seqO : D → Option (List D)
  | .tup ds => some ds
  | .lst ds => some ds
  | _ => none
def seqI (f : Ev) : Ea := fun ρ => (stE f ρ).bind fun d => ofO (seqO d)
section
variable {X : Cx} {W : WX} {tg l : Expr} {f fa fb : Ev}
open PySem.Spec PyProof.Rows in
theorem pi_seq {tl : TE} (hl : PE X l tl) : PI X tg l (fun σ H R => tl σ H fun x H1 => ∃ a, x = .ref a ∧ ((∃ xs, SqL X.K H1 a xs) ∧ R (Itl X.K a) H1 ∨ (∃ xs, SqT X.K H1 a xs) ∧ R (Itt X.K a) H1)) := by
  refine ⟨fun pins s σ H R I h => ?_⟩
  refine thn (hl.run pins s σ H _ I h) fun v s1 ⟨x, H1, I1, r1, q1⟩ => ?_
  obtain ⟨a, e, q1⟩ := q1
  subst e
  cases r1
  rcases q1 with ⟨⟨xs, hq⟩, q⟩ | ⟨⟨xs, hq⟩, q⟩
  · obtain ⟨its, rv, p, hz⟩ := I1.list hq
    refine wpAny_pyIter_list p.isList ?_
    refine ⟨s1.heap.objs.size, [s1.heap.objs.size], _, _, H1, rfl, I1.kept (t' := s1.toks) fun b o e => Heap.get?_push_of_some _ e, turn_list a _, ⟨_, Heap.get?_push_size _ rfl, rfl, rfl⟩, fun b hb => ?_, q⟩
    have e : b = s1.heap.objs.size := by simpa using hb
    subst e
    exact I1.fpOk (Nat.le_refl _) (I1.hok.fresh (Nat.le_refl _))
  · obtain ⟨its, rv, p, hz⟩ := I1.tuple hq
    refine wpAny_pyIter_tuple (show s1.heap.IsTuple a its.toArray from p) ?_
    refine ⟨s1.heap.objs.size, [s1.heap.objs.size], _, _, H1, rfl, I1.kept (t' := s1.toks) fun b o e => Heap.get?_push_of_some _ e, turn_tuple a _, ⟨_, Heap.get?_push_size _ rfl, rfl, rfl⟩, fun b hb => ?_, q⟩
    have e : b = s1.heap.objs.size := by simpa using hb
    subst e
    exact I1.fpOk (Nat.le_refl _) (I1.hok.fresh (Nat.le_refl _))
theorem it_list {K : PySem.W.Frag} {S : Hp} {a : Addr} {xs : List V} {ds : List D} (h : S a = some (.lst xs)) (r : RpAll K S xs ds) : ItOk K (Itl K a) S ds := by
  refine ⟨fun H => SqL K H a xs, YAt xs, by rw [← r.length]; exact walk_list, fun H m => SqL.of (m _ _ h), fun i H x H' d S2 y e m1 m2 => ?_⟩
  obtain ⟨rfl, y⟩ := y
  obtain ⟨v, h1, h2⟩ := r.get e
  rw [h1] at y
  cases y
  exact ⟨S2, Ext.refl m2, h2.mono m1⟩
theorem it_tup {K : PySem.W.Frag} {S : Hp} {a : Addr} {xs : List V} {ds : List D} (h : SqT K S a xs) (r : RpAll K S xs ds) : ItOk K (Itt K a) S ds := by
  refine ⟨fun H => SqT K H a xs, YAt xs, by rw [← r.length]; exact walk_tup, fun H m => Same.seqT m h, fun i H x H' d S2 y e m1 m2 => ?_⟩
  obtain ⟨rfl, y⟩ := y
  obtain ⟨v, h1, h2⟩ := r.get e
  rw [h1] at y
  cases y
  exact ⟨S2, Ext.refl m2, h2.mono m1⟩
theorem it_range {K : PySem.W.Frag} {S : Hp} {lo : Int} {n : Nat} : ItOk K (Itr lo n) S ((List.range n).map fun (i : Nat) => D.int (lo + (i : Int))) := by
  refine ⟨fun _ => True, _, by rw [List.length_map, List.length_range]; exact walk_range, fun _ _ => trivial, fun i H x H' d S2 y e m1 m2 => ?_⟩
  obtain ⟨rfl, rfl⟩ := y
  rw [List.getElem?_map] at e
  cases e2 : (List.range n)[i]? with
  | none => rw [e2] at e; cases e
  | some j =>
    rw [e2] at e
    cases e
    have : j = i := by
      obtain ⟨hh, q⟩ := List.getElem?_eq_some_iff.mp e2
      rw [List.getElem_range] at q
      exact q.symm
    subst this
    exact ⟨S2, Ext.refl m2, .int _⟩
theorem i_seq (ha : PE X l (T X.K W f)) : PI X tg l (TIs X.K W (seqI f)) := PI.imp (pi_seq ha) fun σ H R q => by
  obtain ⟨S0, H0, S, ρ, Re, p⟩ := q
  refine t_stE ⟨S0, H0, S, ρ, Re, ?_⟩
  unfold seqI at p
  cases e : stE f ρ with
  | ok d =>
    rw [e] at p
    obtain ⟨d0, _, hd⟩ := stE_ok e
    refine fun v S1 H1 ex r => ?_
    have r := settle_rp hd r
    cases d with
    | tup ds =>
      cases r with
      | tup h1 q => exact ⟨_, rfl, .inr ⟨⟨_, Same.seqT ex.sh h1⟩, p _ S1 H1 ex (it_tup h1 q)⟩⟩
    | lst ds =>
      cases r with
      | lst h1 q => exact ⟨_, rfl, .inl ⟨⟨_, SqL.of (ex.sh _ _ h1)⟩, p _ S1 H1 ex (it_list h1 q)⟩⟩
    | _ => exact p.elim
  | err x => rw [e] at p; exact p
  | st => rw [e] at p; exact p
def rngI (lo : Int) (n : Nat) : List D := (List.range n).map fun (i : Nat) => D.int (lo + (i : Int))
def rng1I (f : Ev) : Ea := fun ρ => (f ρ).bind fun d => match d with
  | .int j => if -(2 ^ 62) ≤ j ∧ j < 2 ^ 62 then .ok (rngI 0 j.toNat) else .st
  | _ => .st
def rng2I (fa fb : Ev) : Ea := fun ρ => (fa ρ).bind fun d => (fb ρ).bind fun d' => match d, d' with
  | .int i, .int j => if (-(2 ^ 62) ≤ i ∧ i < 2 ^ 62) ∧ (-(2 ^ 62) ≤ j ∧ j < 2 ^ 62) then .ok (rngI i (j - i).toNat) else .st
  | _, _ => .st
theorem i_range1 {a : Expr} {p pos : Pos} (hm : X.mg "range" = none) (ha : PE X a (T X.K W f)) (hg : Gl X "range" := by rfl)
    (h1 : starEach [a] X.env = (false, eval a X.env) :: starEach [] X.env := by rfl) (hs : starEach [a] X.env = [(false, eval a X.env)] := by rfl) : PI X tg (.Call (.Name "range" p) [a] [] pos) (TIs X.K W (rng1I f)) :=
  PI.imp (pi_range1 hg hm (pa_cons ha pa_nil h1) hs) fun σ H R q => by
    obtain ⟨S0, H0, S, ρ, Re, p⟩ := q
    refine ⟨S0, H0, S, ρ, Re, ?_⟩
    unfold rng1I at p
    cases e : f ρ with
    | ok d =>
      rw [e] at p
      cases d with
      | int j =>
        simp only [bind_ok] at p
        refine fun v S1 H1 ex r => ?_
        cases r
        by_cases hj : -(2 ^ 62) ≤ j ∧ j < 2 ^ 62
        · rw [if_pos hj] at p
          exact ⟨j, rfl, hj.1, hj.2, p _ S1 H1 ex it_range⟩
        · rw [if_neg hj] at p; exact p.elim
      | _ => exact p.elim
    | err x => rw [e] at p; exact p
    | st => rw [e] at p; exact p
theorem i_range2 {a b : Expr} {p pos : Pos} (hm : X.mg "range" = none) (ha : PE X a (T X.K W fa)) (hb : PE X b (T X.K W fb)) (hg : Gl X "range" := by rfl)
    (h1 : starEach [a, b] X.env = (false, eval a X.env) :: starEach [b] X.env := by rfl) (h2 : starEach [b] X.env = (false, eval b X.env) :: starEach [] X.env := by rfl)
    (hs : starEach [a, b] X.env = [(false, eval a X.env), (false, eval b X.env)] := by rfl) (hs2 : starEach [b] X.env = [(false, eval b X.env)] := by rfl) : PI X tg (.Call (.Name "range" p) [a, b] [] pos) (TIs X.K W (rng2I fa fb)) :=
  PI.imp (pi_range2 hg hm (pa_cons ha (pa_cons hb pa_nil h2) h1) hs hs2) fun σ H R q => by
    obtain ⟨S0, H0, S, ρ, Re, p⟩ := q
    refine ⟨S0, H0, S, ρ, Re, ?_⟩
    unfold rng2I at p
    cases e : fa ρ with
    | ok d =>
      rw [e] at p
      refine fun v S1 H1 ex r => ⟨S0, H0, S1, ρ, Re.ext ex, ?_⟩
      simp only [bind_ok] at p
      cases e2 : fb ρ with
      | ok d2 =>
        rw [e2] at p
        simp only [bind_ok] at p
        refine fun v2 S2 H2 ex2 r2 => ?_
        cases d with
        | int i =>
          cases d2 with
          | int j =>
            cases r
            cases r2
            by_cases hj : (-(2 ^ 62) ≤ i ∧ i < 2 ^ 62) ∧ (-(2 ^ 62) ≤ j ∧ j < 2 ^ 62)
            · simp only [if_pos hj] at p
              exact ⟨i, j, rfl, ⟨hj.1.1, hj.1.2, hj.2.1, hj.2.2⟩, p _ S2 H2 (ex.trans ex2) it_range⟩
            · simp only [if_neg hj] at p
          | _ => exact p.elim
        | _ => exact p.elim
      | err x => rw [e2] at p; exact PostX.ext p ex
      | st => rw [e2] at p; exact p.elim
    | err x => rw [e] at p; exact p
    | st => rw [e] at p; exact p
/-- enumerate(xs) -/
def enumL (k : Nat) : List D → List D
  | [] => []
  | d :: ds => .tup [.int k, d] :: enumL (k + 1) ds
theorem enumL_length : ∀ (k : Nat) (ds : List D), (enumL k ds).length = ds.length
  | _, [] => rfl
  | k, d :: ds => by rw [enumL, List.length_cons, List.length_cons, enumL_length]
theorem enumL_get : ∀ (k : Nat) (ds : List D) (i : Nat), (enumL k ds)[i]? = (ds[i]?).map fun d => .tup [.int ((k + i : Nat) : Int), d]
  | _, [], i => by simp [enumL]
  | k, d :: ds, 0 => by simp [enumL]
  | k, d :: ds, i + 1 => by
    rw [enumL, List.getElem?_cons_succ, List.getElem?_cons_succ, enumL_get (k + 1) ds i]
    have : k + 1 + i = k + (i + 1) := by omega
    rw [this]
theorem it_enum {K : PySem.W.Frag} {S : Hp} {a : Addr} {xs : List V} {ds : List D} (h : S a = some (.lst xs)) (r : RpAll K S xs ds) : ItOk K (Ite K a) S (enumL 0 ds) := by
  have wk := walk_enum (K := K) (a := a) (xs := xs)
  rw [r.length, ← enumL_length 0 ds] at wk
  refine ⟨_, _, wk, fun H m => SqL.of (m _ _ h), fun i H x H' d S2 y e m1 m2 => ?_⟩
  obtain ⟨Tt, v, w, rfl, hT, rfl, hv, hw⟩ := y
  rw [enumL_get] at e
  cases e2 : ds[i]? with
  | none => rw [e2] at e; cases e
  | some d0 =>
    rw [e2] at e
    cases e
    obtain ⟨z, h1, h2⟩ := r.get e2
    have hw : xs[i]? = some w := hw
    rw [h1] at hw
    obtain rfl := Option.some.inj hw
    cases hv
    have ex := Ext.mk1 m2 hT (.tup [.int (i : Nat), z])
    refine ⟨_, ex, .tup (SqT.of upd_same) (.cons ?_ (.cons ((h2.mono m1).mono ex.ss) .nil))⟩
    rw [Nat.zero_add]
    exact .int _
/-- a, b of zip(xs, ys) -/
def zipL (ds es : List D) : List D := List.zipWith (fun a b => .tup [a, b]) ds es
theorem it_zip {K : PySem.W.Frag} {S : Hp} {a b : Addr} {xs ys : List V} {ds es : List D} (h : S a = some (.lst xs)) (r : RpAll K S xs ds) (h' : S b = some (.lst ys)) (r' : RpAll K S ys es) : ItOk K (Itz K a b) S (zipL ds es) := by
  refine ⟨_, _, walk_zip (K := K) (a := a) (b := b) (xs := xs) (ys := ys) (n := (zipL ds es).length) (by unfold zipL; rw [List.length_zipWith, r.length, r'.length]), fun H m => ⟨SqL.of (m _ _ h), SqL.of (m _ _ h')⟩, fun i H x H' d S2 y e m1 m2 => ?_⟩
  obtain ⟨Tt, v, w, rfl, hT, rfl, hv, hw⟩ := y
  unfold zipL at e
  rw [List.getElem?_zipWith] at e
  cases e2 : ds[i]? with
  | none => rw [e2] at e; simp at e
  | some d0 =>
    cases e3 : es[i]? with
    | none => rw [e2, e3] at e; simp at e
    | some d1 =>
      rw [e2, e3] at e
      simp only [Option.some.injEq] at e
      subst e
      obtain ⟨z, h1, h2⟩ := r.get e2
      obtain ⟨z', h3, h4⟩ := r'.get e3
      have hv : xs[i]? = some v := hv
      have hw : ys[i]? = some w := hw
      rw [h1] at hv
      rw [h3] at hw
      obtain rfl := Option.some.inj hv
      obtain rfl := Option.some.inj hw
      have ex := Ext.mk1 m2 hT (.tup [z, z'])
      exact ⟨_, ex, .tup (SqT.of upd_same) (.cons ((h2.mono m1).mono ex.ss) (.cons ((h4.mono m1).mono ex.ss) .nil))⟩
end

/-! ### for, while -/
def forO (G : D → Rho → Option Rho) (b : Es) : List D → Es
  | [], ρ => .nx ρ
  | d :: ds, ρ => match G d ρ with
    | none => .st
    | some ρ1 => match b ρ1 with
      | .nx ρ2 => forO G b ds ρ2
      | .ct ρ2 => forO G b ds ρ2
      | .bk ρ2 => .nx ρ2
      | o => o
def forS (f : Ea) (G : D → Rho → Option Rho) (b : Es) : Es := fun ρ => match f ρ with
  | .ok ds => forO G b ds ρ
  | .err x => .er x ρ
  | .st => .st
def whO (c : Eb) (b : Es) : Nat → Es
  | 0, _ => .st
  | n + 1, ρ => match c ρ with
    | .ok k => if k = true then (match b ρ with
      | .nx ρ2 => whO c b n ρ2
      | .ct ρ2 => whO c b n ρ2
      | .bk ρ2 => .nx ρ2
      | o => o) else .nx ρ
    | .err x => .er x ρ
    | .st => .st
def whS (n : Rho → Nat) (c : Eb) (b : Es) : Es := fun ρ => whO c b (n ρ) ρ
section
variable {K : PySem.W.Frag} {W : WX} {S0 H0 S H S1 H1 S' H' : Hp} {σ σ' : St} {ρ ρ' : Rho}
theorem Rel.rebase (R : Rel K S0 H0 S H σ ρ) : Rel K S H0 S H σ ρ := ⟨⟨Same.refl _, R.ex.hh, R.ex.sh, fun _ e _ => e⟩, R.len, R.at_, R.dis⟩
theorem Ext.unbase (e : Ext S0 H0 S1 H1) (e2 : Ext S1 H0 S' H') : Ext S0 H0 S' H' := ⟨e.ss.trans e2.ss, e2.hh, e2.sh, fun l a n => e2.fr l (e.fr l a n) n⟩
theorem Rel.unbase (e : Ext S0 H0 S1 H1) (R : Rel K S1 H0 S' H' σ ρ) : Rel K S0 H0 S' H' σ ρ := ⟨e.unbase R.ex, R.len, R.at_, R.dis⟩
end
section
variable {X : Cx} {W : WX} {tg it : Expr} {f : Ea} {b : Es} {c : Eb} {G : D → Rho → Option Rho} {g : TG} {body : List Stmt} {pos : Pos}
theorem s_for (hp : PassesOwn (model X.prog X.w) X.A X.env X.xe) (hc : X.calm = true) (hi : PI X tg it (TIs X.K W f)) (hg : PG X tg g) (hG : GOk X.K g G) (hb : PSs X body (TSt X.K W b)) (hs : ∀ x, foldedSetIterable it X.env x = pure x := by intro _; rfl) :
    PS X (.For tg it body [] pos) (TSt X.K W (forS f G b)) := PS.imp (ps_for hp hc hi hg hb hs) fun D σ H q => by
  obtain ⟨S0, H0, S, ρ, R, p⟩ := q
  refine ⟨S0, H0, S, ρ, R, ?_⟩
  unfold forS at p
  cases e : f ρ with
  | err x => rw [e] at p; exact PostX.of R p
  | st => rw [e] at p; exact p.elim
  | ok ds =>
    rw [e] at p
    intro J S1 H1 ex ok
    obtain ⟨Gd, Y, wk, hGd, hY⟩ := ok
    have R1 := R.ext ex
    refine for_it wk (fun i σ H => ∃ S ρ, Rel X.K S1 H0 S H σ ρ ∧ PostS X.K W S0 H0 D (forO G b (ds.drop i) ρ)) ⟨S1, ρ, R1.rebase, p⟩ (fun i σ' H' _ ⟨S', ρ', R', _⟩ => hGd H' (R'.ex.ss.trans R'.ex.sh)) ?_ ?_
    · rintro i x σ2 H2 H3 hi ⟨S2, ρ2, R2, p2⟩ y
      have hd : ds.drop i = ds[i] :: ds.drop (i + 1) := (List.drop_eq_getElem_cons hi)
      rw [hd] at p2
      obtain ⟨S3, ex3, r3⟩ := hY i H2 x H3 ds[i] S2 y (List.getElem?_eq_getElem hi) R2.ex.ss R2.ex.sh
      have R3 := R2.ext ex3
      rw [forO] at p2
      cases eg : G ds[i] ρ2 with
      | none => rw [eg] at p2; exact p2.elim
      | some ρ3 =>
        rw [eg] at p2
        refine hG _ _ _ _ _ _ _ _ _ _ R3 r3 eg fun σ4 R4 => ?_
        refine ⟨S1, H0, S3, ρ3, R4, ?_⟩
        cases eb : b ρ3 with
        | nx ρ5 => simp only [eb] at p2; exact fun σ5 S5 H5 R5 => ⟨S5, ρ5, R5, p2⟩
        | ct ρ5 => simp only [eb] at p2; exact fun σ5 S5 H5 R5 => ⟨S5, ρ5, R5, p2⟩
        | bk ρ5 => simp only [eb] at p2; exact fun σ5 S5 H5 R5 => p2 σ5 S5 H5 (R5.unbase R1.ex)
        | rt d => simp only [eb] at p2; exact fun v S5 H5 e5 r5 => p2 v S5 H5 (R1.ex.unbase e5) r5
        | er x ρ5 => simp only [eb] at p2; exact fun dd σ5 S5 H5 R5 hx => p2 dd σ5 S5 H5 (R5.unbase R1.ex) hx
        | st => simp only [eb] at p2; exact p2
    · rintro σ2 H2 ⟨S2, ρ2, R2, p2⟩
      rw [List.drop_length, forO] at p2
      exact p2 σ2 S2 H2 (R2.unbase R1.ex)
theorem s_while {n : Rho → Nat} {c' : Expr} (hp : PassesOwn (model X.prog X.w) X.A X.env X.xe) (hc : PT X c' (TB X.K W c)) (hb : PSs X body (TSt X.K W b)) : PS X (.While c' body [] pos) (TSt X.K W (whS n c b)) := PS.imp (ps_while hp hc hb) fun D σ H q => by
  obtain ⟨S0, H0, S, ρ, R, p⟩ := q
  refine ⟨fun m σ H => ∃ S ρ, Rel X.K S0 H0 S H σ ρ ∧ PostS X.K W S0 H0 D (whO c b m ρ), ⟨n ρ, S, ρ, R, p⟩, ?_⟩
  rintro m σ1 H1 ⟨S1, ρ1, R1, p1⟩
  refine ⟨S0, H0, S1, ρ1, R1, ?_⟩
  cases m with
  | zero => rw [whO] at p1; exact p1.elim
  | succ m =>
    rw [whO] at p1
    cases e : c ρ1 with
    | err x => rw [e] at p1; exact PostX.of R1 p1
    | st => rw [e] at p1; exact p1.elim
    | ok k =>
      simp only [e] at p1
      cases k with
      | false =>
        intro S' H' ex
        exact p1 σ1 S' H' (R1.ext ex)
      | true =>
        simp only [if_true] at p1
        intro S' H' ex
        refine ⟨fun σ2 H2 => ∃ S ρ, Rel X.K S0 H0 S H2 σ2 ρ ∧ PostS X.K W S0 H0 D (whO c b m ρ), fun σ' H' h => ⟨m, Nat.lt_succ_self m, h⟩, S0, H0, S', ρ1, R1.ext ex, ?_⟩
        cases eb : b ρ1 with
        | nx ρ5 => simp only [eb] at p1; exact fun σ5 S5 H5 R5 => ⟨S5, ρ5, R5, p1⟩
        | ct ρ5 => simp only [eb] at p1; exact fun σ5 S5 H5 R5 => ⟨S5, ρ5, R5, p1⟩
        | bk ρ5 => simp only [eb] at p1; exact p1
        | rt d => simp only [eb] at p1; exact p1
        | er x ρ5 => simp only [eb] at p1; exact p1
        | st => simp only [eb] at p1; exact p1
end

/-! ### comprehensions -/
def noW : WX := fun _ _ _ _ => False
def sure {α : Type} : Res α → Res α
  | .ok a => .ok a
  | _ => .st
def lcO (G : D → Rho → Option Rho) (t : Eb) (e : Ev) (ρ : Rho) : List D → Res (List D)
  | [] => .ok []
  | d :: ds => match G d ρ with
    | none => .st
    | some ρ1 => (sure (t ρ1)).bind fun k => if k = true then (sure (stE e ρ1)).bind fun x => (lcO G t e ρ ds).bind fun xs => .ok (x :: xs) else lcO G t e ρ ds
def wipeR (ρ : Rho) : List Nat → Rho
  | [] => ρ
  | v :: vs => (wipeR ρ vs).set v .un
def lcE (f : Ea) (vs : List Nat) (G : D → Rho → Option Rho) (t : Eb) (e : Ev) : Ev := fun ρ => (f ρ).bind fun ds => if ds.length ≤ LINE then (lcO G t e (wipeR ρ vs) ds).bind fun xs => .ok (.new xs) else .st
def yesB : Eb := fun _ => .ok true
theorem wipeR_length (ρ : Rho) : ∀ vs : List Nat, (wipeR ρ vs).length = ρ.length
  | [] => rfl
  | v :: vs => by rw [wipeR, List.length_set, wipeR_length ρ vs]
theorem wipeR_get (ρ : Rho) {i : Nat} {s : Slot} : ∀ {vs : List Nat}, (wipeR ρ vs)[i]? = some s → s = .un ∨ (ρ[i]? = some s ∧ i ∉ vs)
  | [], h => .inr ⟨h, by simp⟩
  | v :: vs, h => by
    rw [wipeR] at h
    by_cases hi : v = i
    · subst hi
      by_cases hl : v < (wipeR ρ vs).length
      · rw [List.getElem?_set_self hl] at h
        cases h
        exact .inl rfl
      · rw [List.getElem?_eq_none (by rw [List.length_set]; omega)] at h; cases h
    · rw [List.getElem?_set_ne hi] at h
      rcases wipeR_get ρ h with q | ⟨q, n⟩
      · exact .inl q
      · refine .inr ⟨q, fun z => ?_⟩
        rcases List.mem_cons.mp z with z | z
        · exact hi z.symm
        · exact n z
theorem wipe_get {σ : St} {i : Nat} : ∀ {vs : List Nat}, i ∉ vs → (wipe σ vs)[i]? = σ[i]?
  | [], _ => rfl
  | v :: vs, h => by
    rw [wipe, List.getElem?_set_ne (fun z => h (by rw [z]; exact List.mem_cons_self))]
    exact wipe_get fun z => h (List.mem_cons_of_mem _ z)
theorem Rel.wiped {K : PySem.W.Frag} {S0 H0 S H : Hp} {σ : St} {ρ : Rho} (R : Rel K S0 H0 S H σ ρ) (vs : List Nat) : Rel K S0 H0 S H (wipe σ vs) (wipeR ρ vs) := by
  refine ⟨R.ex, by rw [wipe_length, wipeR_length]; exact R.len, fun i s e => ?_, fun i j l ds es n e1 e2 e3 e4 => ?_⟩
  · rcases wipeR_get ρ e with rfl | ⟨q, n⟩
    · have hi : i < (wipe σ vs).length := by
        have := (List.getElem?_eq_some_iff.mp e).1
        rw [wipeR_length] at this
        rw [wipe_length, R.len]; exact this
      exact ⟨_, List.getElem?_eq_getElem hi, trivial⟩
    · rw [wipe_get n]
      exact R.at_ i s q
  · have f : ∀ {m : Nat} {fs : List D}, (wipeR ρ vs)[m]? = some (.own fs) → ρ[m]? = some (.own fs) ∧ m ∉ vs := fun {m fs} e => by
      rcases wipeR_get ρ e with q | q
      · cases q
      · exact q
    obtain ⟨g1, n1⟩ := f e1
    obtain ⟨g2, n2⟩ := f e2
    rw [wipe_get n1] at e3
    rw [wipe_get n2] at e4
    exact R.dis i j l ds es n g1 g2 e3 e4
/-- a comprehension's target keeps to its own slots -/
def GIn (g : TG) (vs : List Nat) : Prop := ∀ x σ H (Q : St → Hp → Prop), g x (wipe σ vs) H Q → g x (wipe σ vs) H fun σ2 H2 => wipe σ2 vs = wipe σ vs ∧ Q σ2 H2
theorem gin_name {i : Nat} : GIn (gName i) [i] := by
  intro x σ H Q q
  refine ⟨?_, q⟩
  show (List.set (List.set (List.set σ i none) i (some x)) i none) = List.set σ i none
  rw [List.set_set, List.set_set]
theorem gin_two {K : PySem.W.Frag} {i j : Nat} (hij : i ≠ j) : GIn (gTup K 2 (gsN [i, j])) [i, j] := by
  intro x σ H Q q
  obtain ⟨a, xs, rfl, h1, h2, v, r, rfl, w, r2, rfl, rfl, q⟩ := q
  refine ⟨a, _, rfl, h1, h2, v, _, rfl, w, _, rfl, rfl, ?_, q⟩
  show List.set (List.set (List.set (List.set (List.set (List.set σ j none) i none) i (some v)) j (some w)) j none) i none = List.set (List.set σ j none) i none
  rw [List.set_set (a := none) (b := some v)]
  rw [List.set_set]
  rw [List.set_comm _ _ (Ne.symm hij), List.set_set, List.set_comm _ _ hij, List.set_set]
section
variable {X : Cx} {W : WX} {elt tg iter : Expr} {ifs : List Expr} {scope : Scope} {own : List (Str × Nat)} {pos : Pos} {f : Ea} {g : TG} {G : D → Rho → Option Rho} {t : Eb} {e : Ev}
abbrev PTs' (X : Cx) (ifs : List Expr) (t : Eb) : Prop := PTs X ifs (TB X.K noW t)
theorem t_lc (hG : GOk X.K g G) (hv : GIn g (own.map (·.2))) {σ : St} {H : Hp} {Q : VK} (h : T X.K W (lcE f (own.map (·.2)) G t e) σ H Q) :
    tLc (TIs X.K W f) g (TB X.K noW t) (T X.K noW e) (own.map (·.2)) σ H Q := by
  obtain ⟨S0, H0, S, ρ, R, p⟩ := h
  refine ⟨S0, H0, S, ρ, R, ?_⟩
  unfold lcE at p
  cases ef : f ρ with
  | err x => rw [ef] at p; exact p
  | st => rw [ef] at p; exact p
  | ok ds =>
    rw [ef] at p
    simp only [bind_ok] at p
    by_cases hl : ds.length ≤ LINE
    · rw [if_pos hl] at p
      cases el : lcO G t e (wipeR ρ (own.map (·.2))) ds with
      | err x =>
        exfalso
        have : ∀ ds, ∀ x, lcO G t e (wipeR ρ (own.map (·.2))) ds ≠ .err x := by
          intro ds
          induction ds with
          | nil => intro x z; rw [lcO] at z; cases z
          | cons d ds ih =>
            intro x z
            rw [lcO] at z
            cases eg : G d (wipeR ρ (own.map (·.2))) with
            | none => rw [eg] at z; cases z
            | some ρ1 =>
              simp only [eg] at z
              cases et : t ρ1 with
              | err y => simp only [et, sure, bind_st] at z; cases z
              | st => simp only [et, sure, bind_st] at z; cases z
              | ok k =>
                simp only [et, sure, bind_ok] at z
                cases k with
                | false => simp only [Bool.false_eq_true, if_false] at z; exact ih x z
                | true =>
                  simp only [if_true] at z
                  cases ee : stE e ρ1 with
                  | err y => simp only [ee, sure, bind_st] at z; cases z
                  | st => simp only [ee, sure, bind_st] at z; cases z
                  | ok y =>
                    simp only [ee, sure, bind_ok] at z
                    cases er : lcO G t e (wipeR ρ (own.map (·.2))) ds with
                    | err y => exact ih y er
                    | st => rw [er] at z; cases z
                    | ok ys => rw [er] at z; cases z
        exact this ds x el
      | st => rw [el] at p; exact p.elim
      | ok xs =>
        rw [el] at p
        simp only [bind_ok] at p
        intro J S1 H1 ex ok D hD
        obtain ⟨Gd, Y, wk, hGd, hY⟩ := ok
        have R1 := R.ext ex
        -- the items made so far and what the rest makes
        refine lc_it wk (fun i H2 => ∃ S2 acc ys zs, Ext S1 H1 S2 H2 ∧ S2 D = none ∧ H2 D = some (.lst acc) ∧ RpAll X.K S2 acc ys ∧ acc.length ≤ i ∧ lcO G t e (wipeR ρ (own.map (·.2))) (ds.drop i) = .ok zs ∧ ys ++ zs = xs) ?_ ?_ ?_ ?_
        · exact ⟨S1, [], [], xs, Ext.mk0 ex.sh hD _, ex.sh.free hD, upd_same, .nil, Nat.le_refl _, by rw [List.drop_zero]; exact el, rfl⟩
        · rintro i H2 _ ⟨S2, acc, ys, zs, e2, _⟩
          exact hGd H2 (e2.ss.trans e2.sh)
        · rintro i x H2 H3 hi ⟨S2, acc, ys, zs, e2, hS, hA, ra, hac, hz, hx⟩ y
          have hd : ds.drop i = ds[i] :: ds.drop (i + 1) := (List.drop_eq_getElem_cons hi)
          rw [hd, lcO] at hz
          obtain ⟨S3, ex3, r3⟩ := hY i H2 x H3 ds[i] S2 y (List.getElem?_eq_getElem hi) e2.ss e2.sh
          have R3 := (R1.ext (e2.trans ex3)).wiped (own.map (·.2))
          have hS3 : S3 D = none := ex3.fr D hS (by rw [hA]; exact fun z => by cases z)
          have hA3 := ex3.hh _ _ hA
          cases eg : G ds[i] (wipeR ρ (own.map (·.2))) with
          | none => rw [eg] at hz; cases hz
          | some ρ3 =>
            simp only [eg] at hz
            refine hv x σ H3 _ (hG _ _ _ _ _ _ _ _ _ _ R3 r3 eg fun σ4 R4 => ?_)
            refine ⟨S0, H0, S3, ρ3, R4, ?_⟩
            cases et : t ρ3 with
            | err y => simp only [et, sure, bind_st] at hz; cases hz
            | st => simp only [et, sure, bind_st] at hz; cases hz
            | ok k =>
              simp only [et, sure, bind_ok] at hz
              intro S4 H4 ex4
              have hS4 : S4 D = none := ex4.fr D hS3 (by rw [hA3]; exact fun z => by cases z)
              have hA4 := ex4.hh _ _ hA3
              cases k with
              | false =>
                simp only [Bool.false_eq_true, if_false] at hz ⊢
                exact ⟨S4, acc, ys, zs, e2.trans (ex3.trans ex4), hS4, hA4, ra.mono (ex3.trans ex4).ss, by omega, hz, hx⟩
              | true =>
                simp only [if_true] at hz ⊢
                cases ee : stE e ρ3 with
                | err y => simp only [ee, sure, bind_st] at hz; cases hz
                | st => simp only [ee, sure, bind_st] at hz; cases hz
                | ok y =>
                  simp only [ee, sure, bind_ok] at hz
                  cases er : lcO G t e (wipeR ρ (own.map (·.2))) (ds.drop (i + 1)) with
                  | err y => rw [er] at hz; cases hz
                  | st => rw [er] at hz; cases hz
                  | ok ws =>
                    rw [er] at hz
                    cases hz
                    obtain ⟨d0, _, hd0⟩ := stE_ok ee
                    refine t_stE ⟨S0, H0, S4, ρ3, R4.ext ex4, ?_⟩
                    rw [ee]
                    intro v S5 H5 ex5 r5
                    have r5 := settle_rp hd0 r5
                    have hS5 : S5 D = none := ex5.fr D hS4 (by rw [hA4]; exact fun z => by cases z)
                    have hA5 := ex5.hh _ _ hA4
                    have e5 := e2.trans (ex3.trans (ex4.trans ex5))
                    refine ⟨acc, hA5, by rw [line_eq]; omega, S5, acc ++ [v], ys ++ [y], ws, ⟨e5.ss, fun b u q => ?_, fun b u q => ?_, e5.fr⟩, hS5, upd_same, (ra.mono (ex3.trans (ex4.trans ex5)).ss).append (.cons r5 .nil), by rw [List.length_append, List.length_singleton]; omega, rfl, by rw [List.append_assoc]; exact hx⟩
                    · rw [upd_ne (ne_of_none q hD)]; exact e5.hh _ _ q
                    · rw [upd_ne (ne_of_none q hS5)]; exact e5.sh _ _ q
        · rintro H2 ⟨S2, acc, ys, zs, e2, hS, hA, ra, hac, hz, hx⟩
          rw [List.drop_length, lcO] at hz
          cases hz
          rw [List.append_nil] at hx
          subst hx
          exact p _ S2 H2 (ex.trans e2) ⟨D, acc, rfl, ex.hh.free hD, hS, hA, ra⟩
    · rw [if_neg hl] at p; exact p.elim
theorem d_lc (hc : X.calm = true) (hN : X.N.Nodup) (hi : PI X tg iter (TIs X.K W f)) (ok : BlkOk X.N X.env.scope scope own) (hG : GOk X.K g G) (hv : GIn g (own.map (·.2)))
    (hg : ∀ (s : Shared) (H : Hp) (C : Addr) (cl : List (Str × Addr)) (fp : List Addr), PG (X.blk s H scope (compEnvC scope cl C X.env) fp) tg g)
    (ht : ∀ (s : Shared) (H : Hp) (C : Addr) (cl : List (Str × Addr)) (fp : List Addr), PTs (X.blk s H scope (compEnvC scope cl C X.env) fp) ifs (TB X.K noW t))
    (he : ∀ (s : Shared) (H : Hp) (C : Addr) (cl : List (Str × Addr)) (fp : List Addr), PE (X.blk s H scope (compEnvC scope cl C X.env) fp) elt (T X.K noW e)) (hs : ∀ x, foldedSetIterable iter X.env x = pure x := by intro _; rfl) :
    PE X (.ListComp elt [⟨tg, iter, ifs, 0⟩] scope pos) (T X.K W (lcE f (own.map (·.2)) G t e)) := PE.imp (pe_lc hc hN hi ok hg ht he hs) fun _ _ _ h => t_lc hG hv h
theorem s_asgLc {i : Nat} {y : Str} {py spos : Pos} (hc : X.calm = true) (hN : X.N.Nodup) (hy : X.N[i]? = some y) (hyl : X.env.scope.names.lookup y = some .local)
    (hsw : swapsWith (.ListComp elt [⟨tg, iter, ifs, 0⟩] scope pos) (some (.Name y py)) spos.line X.env = pure true) (hi : PI X tg iter (TIs X.K W f)) (ok : BlkOk X.N X.env.scope scope own) (hG : GOk X.K g G) (hv : GIn g (own.map (·.2)))
    (hg : ∀ (s : Shared) (H : Hp) (C : Addr) (cl : List (Str × Addr)) (fp : List Addr), PG (X.blk s H scope (compEnvC scope cl C X.env) fp) tg g)
    (ht : ∀ (s : Shared) (H : Hp) (C : Addr) (cl : List (Str × Addr)) (fp : List Addr), PTs (X.blk s H scope (compEnvC scope cl C X.env) fp) ifs (TB X.K noW t))
    (he : ∀ (s : Shared) (H : Hp) (C : Addr) (cl : List (Str × Addr)) (fp : List Addr), PE (X.blk s H scope (compEnvC scope cl C X.env) fp) elt (T X.K noW e)) (hs : ∀ x, foldedSetIterable iter X.env x = pure x := by intro _; rfl) :
    PS X (.Assign [.Name y py] (.ListComp elt [⟨tg, iter, ifs, 0⟩] scope pos) spos) (TSt X.K W (asgS i (lcE f (own.map (·.2)) G t e))) :=
  PS.imp (ps_setLc hc hN hy hyl hsw hi ok hg ht he hs) fun D σ H q => by
    obtain ⟨S0, H0, S, ρ, R, p⟩ := q
    show tLc _ _ _ _ _ σ H _
    refine t_lc hG hv (t_thenS' R p)
where
  t_thenS' {S0 H0 S H : Hp} {σ : St} {ρ : Rho} {D : Ends} (R : Rel X.K S0 H0 S H σ ρ) (p : PostS X.K W S0 H0 D (asgS i (lcE f (own.map (·.2)) G t e) ρ)) : T X.K W (lcE f (own.map (·.2)) G t e) σ H fun x H1 => gName i x σ H1 D.nx :=
    t_thenS R p fun d v S' H' ex R' r p => p _ S' H' (R'.set (s := .v d) ⟨v, rfl, r⟩ fun _ z => by cases z)
theorem s_ownLc {i : Nat} {y : Str} {py spos : Pos} (hc : X.calm = true) (hN : X.N.Nodup) (hy : X.N[i]? = some y) (hyl : X.env.scope.names.lookup y = some .local)
    (hsw : swapsWith (.ListComp elt [⟨tg, iter, ifs, 0⟩] scope pos) (some (.Name y py)) spos.line X.env = pure true) (hi : PI X tg iter (TIs X.K W f)) (ok : BlkOk X.N X.env.scope scope own) (hG : GOk X.K g G) (hv : GIn g (own.map (·.2)))
    (hg : ∀ (s : Shared) (H : Hp) (C : Addr) (cl : List (Str × Addr)) (fp : List Addr), PG (X.blk s H scope (compEnvC scope cl C X.env) fp) tg g)
    (ht : ∀ (s : Shared) (H : Hp) (C : Addr) (cl : List (Str × Addr)) (fp : List Addr), PTs (X.blk s H scope (compEnvC scope cl C X.env) fp) ifs (TB X.K noW t))
    (he : ∀ (s : Shared) (H : Hp) (C : Addr) (cl : List (Str × Addr)) (fp : List Addr), PE (X.blk s H scope (compEnvC scope cl C X.env) fp) elt (T X.K noW e)) (hs : ∀ x, foldedSetIterable iter X.env x = pure x := by intro _; rfl) :
    PS X (.Assign [.Name y py] (.ListComp elt [⟨tg, iter, ifs, 0⟩] scope pos) spos) (TSt X.K W (ownS i (lcE f (own.map (·.2)) G t e))) :=
  PS.imp (ps_setLc hc hN hy hyl hsw hi ok hg ht he hs) fun D σ H q => by
    obtain ⟨S0, H0, S, ρ, R, p⟩ := q
    refine t_lc hG hv (W := W) (Q := fun x H1 => gName i x σ H1 D.nx) ?_
    refine t_then R p fun d v S' H' ex R' r p => ?_
    cases d with
    | new ds => exact p _ S' H' (R.setNew ex r)
    | _ => exact p.elim
theorem pts_none (X : Cx) : PTs X [] (TB X.K noW yesB) := ⟨fun pins s σ H Q I h => by
    obtain ⟨S0, H0, S, ρ, R, p⟩ := h
    exact pts_nil.run pins s σ H Q I (p S H (Ext.refl R.sh))⟩
theorem pts_1 {c : Expr} (h : PT X c (TB X.K noW t)) : PTs X [c] (TB X.K noW t) := pts_one h
end
end DL

namespace DL
open PySem L2
open PySem.Spec PyProof.Rows

/-! ### defs, with no repr running around them -/
/-- the def at f keeps the promise sp where no repr is being made (the guards are none) -/
structure FnG (P : Program) (w : World) (K : PySem.W.Frag) (mg : Str → Option Value) (base : Heap) (k : Nat) (f : Addr) (fd : FuncData) (ps : List Str) (sp : Sp) : Prop where
  len : ∀ vs H Q E, sp vs H Q E → vs.length = ps.length
  run : ∀ (A : Around) (outer : List Env) (s : Shared) (H : Hp) (args : Args) (us : List Value) (vs : List V) (Q : VK) (E : XK), Room k A → A.guards = some [] → Env0 P w K mg base A outer s H →
    BindsTo s fd args (ps.zip us) → Vals vs us → sp vs H Q E → codeAny (model P w) A (.call (.ref f) args) (CR (L2.CX P w) outer P w H s Q E) s
section
variable {P : Program} {w : World} {K : PySem.W.Frag} {mg : Str → Option Value} {base : Heap} {k : Nat} {f : Addr}
theorem fnG_of {name qual : Str} {params : Arguments} {body : List Stmt} {scope : Scope} {dV kV doc pm cdv ct oc : Value} {an od : Option Addr} {osl : Array (Option Value)} {N ps : List Str} {sp : Sp}
    (lk : K.lookup f = some ⟨oc, od, .func (PySem.W.fnOf name qual params body scope dV kV doc pm an cdv ct), osl⟩) (hcd : PySem.W.codeIn K cdv qual = true) (Sc : FnScope N ps scope) (hlen : ∀ vs H Q E, sp vs H Q E → vs.length = ps.length)
    (hbody : ∀ (A : Around) (outer : List Env) (s : Shared) (H : Hp) (vs : List V) (Q : VK) (E : XK), Room k (A.deeper (envOfC qual scope s.heap.objs.size f cdv)) → A.guards = some [] → sp vs H Q E →
      ∃ t, PSs (cxOf (L2.CX P w) P w K mg base N qual scope f cdv A outer s H E) body t ∧ t { nx := fun _ H' => Q .non H', rt := Q } (L2.start N vs) H) :
    FnG P w K mg base (k + 1) f (PySem.W.fnOf name qual params body scope dV kV doc pm an cdv ct) ps sp where
  len := hlen
  run := by
    intro A outer s H args us vs Q E room gd env bnd rel prom
    have count := hlen _ _ _ _ prom
    have there : K.In s.heap := env.mod.kin.keeps fun b o q => (env.bs b o q).1
    have lim : s.heap.NoLimit := env.mod.nolimit.keeps fun b o q => (env.bs b o q).1
    have kinds : ∀ y ∈ ps.zip us, scope.names.lookup y.1 = some .local ∨ (scope.names.lookup y.1 = some .cell ∧ ((cellsFrom (s.heap.objs.size + 1) scope.names []).lookup y.1).isSome = true) := by
      rintro ⟨n, v⟩ hy
      exact (Sc.par n (List.of_mem_zip hy).1).imp id fun q => ⟨q, PySem.W.cellsFrom_some _ _ _ (.inl q)⟩
    refine codeAny_call_function room.depth (there _ _ lk) rfl Sc.co Sc.gen rfl (PySem.W.codeRec_of there hcd) (bnd _ _ _ _ ?_)
    refine wpAny_newFunctionEnv_cells Sc.kind kinds fun env' he s1 x => ?_
    subst he
    refine ⟨lim.keeps x.toInCall.keep, codeAny_func ?_⟩
    obtain ⟨t, ht, q⟩ := hbody A outer s H vs Q E (room.deeper _) gd prom
    have I := inv_start (CX := L2.CX P w) (E := E) (f := f) (qual := qual) (mg := mg) (cd := cdv) Sc room.hd env count rel x
    have close : ∀ {σ' : L2.St} {H' : Hp} {v : V} {u : Value} {s' : Shared}, Inv (cxOf (L2.CX P w) P w K mg base N qual scope f cdv A outer s H E) [] σ' H' s' → RelV v u → Q v H' → CE outer P w H s Q u s' :=
      fun J rv q => ⟨_, _, J.os, J.bare, J.base, J.hok, rv, q⟩
    refine wpAny_mono (ht.run [] s1 (L2.start N vs) H _ I q) (fun fl s' done => ?_) fun _ _ h => h
    cases fl with
    | brk => obtain ⟨_, _, _, z⟩ := done; exact z.elim
    | cont => obtain ⟨_, _, _, z⟩ := done; exact z.elim
    | next =>
      obtain ⟨_, H', J, z⟩ := done
      exact close (v := V.non) (u := Value.none) J rfl z
    | ret u =>
      obtain ⟨v, _, H', J, rv, z⟩ := done
      exact close J rv z
end
section
variable {X : Cx} {k : Nat} {f C : Addr} {fd : FuncData} {ps : List Str} {sp : Sp} {W : WX} {x m : Str} {p pos apos : Pos} {e o : Expr} {es : List Expr} {ta : TE} {t : TA}
theorem run_fnG {pins : List (Addr × Obj)} {σ : L2.St} {H : Hp} {s : Shared} {Q : VK} {us : List Value} {vs : List V} (F : FnG X.prog X.w X.K X.mg X.base k f fd ps sp) (hr : Room k X.A) (gd : X.A.guards = some []) (hb : Binds X.K fd ps []) (tk : Takes X W)
    (I : Inv X pins σ H s) (r : Vals vs us) (h : sp vs H Q (WE W σ)) : wpAny (model X.prog X.w) X.A (call (.ref f) us) (EP X pins σ Q) X.xe s := by
  have count : (us ++ []).length = ps.length := by rw [List.append_nil, ← r.length]; exact F.len _ _ _ _ h
  have bnd := hb s us I.kIn count
  rw [List.append_nil] at bnd
  refine wpAny_call (codeAny_mono (F.run X.A X.stack s H _ us vs Q (WE W σ) hr gd I.env0 bnd r h) fun res s' q => ?_)
  match res, q with
  | .error u, q => exact passAt tk σ pins H s u s' I q
  | .ok (.ret u), q => exact I.after q
def tCallG (sp : Sp) (W : WX) (t : TA) : TE := fun σ H Q => t σ H fun vs H1 => sp vs H1 Q (WE W σ)
theorem pe_callG (F : FnG X.prog X.w X.K X.mg X.base k f fd ps sp) (hr : Room k X.A) (gd : X.A.guards = some []) (hg : Gl X x) (hm : X.mg x = some (.ref f)) (hk : PySem.W.keepIn X.K (.ref f) = true) (hb : Binds X.K fd ps []) (tk : Takes X W)
    (ha : PA X (e :: es) t) (hdb : (x == ("__debug__" : Str)) = false := by decide) (he : starEach (e :: es) X.env = (false, eval e X.env) :: starEach es X.env := by rfl) (hpl : (backTo pos (starEach es X.env)).any (·.1) = false := by rfl) :
    PE X (.Call (.Name x p) (e :: es) [] pos) (tCallG sp W t) where
  run := fun pins s σ H Q I h => wpAny_Call_Name_kw (ld_glob I hg hm (PySem.W.callWith_K (h₀ := X.base) I.ok.mod.kin hk
    (thn (ha.run pos pins s σ H _ I h) fun us s1 ⟨vs, H1, I1, r, q⟩ => ⟨I1.kIn, run_fnG F hr gd hb tk I1 r q⟩) he hpl) hdb)
theorem pe_callG0 (F : FnG X.prog X.w X.K X.mg X.base k f fd ps sp) (hr : Room k X.A) (gd : X.A.guards = some []) (hg : Gl X x) (hm : X.mg x = some (.ref f)) (hk : PySem.W.keepIn X.K (.ref f) = true) (hb : Binds X.K fd ps []) (tk : Takes X W)
    (hdb : (x == ("__debug__" : Str)) = false := by decide) : PE X (.Call (.Name x p) [] [] pos) (tCallG sp W tNil) where
  run := fun pins s σ H Q I h => wpAny_Call_Name_kw (ld_glob I hg hm (PySem.W.callWith_K0 I.kIn hk (run_fnG (us := []) F hr gd hb tk I .nil h)) hdb)
end

/-! ### the promise: what it makes of data -/
def spD (K : PySem.W.Frag) (n : Nat) (F : List D → Res D) : Sp := fun vs H Q E => vs.length = n ∧ ∃ S ds, Same S H ∧ RpAll K S vs ds ∧ (match F ds with
  | .ok d => ∀ v S' H', Ext S H S' H' → Rp K S' v d → Q v H'
  | .err x => ∀ dd S' H', Ext S H S' H' → XAt x dd H' → E x.cls dd H'
  | .st => False)
def runF (m : Nat) (f : Es) : List D → Res D := fun ds => match f (ds.map Slot.v ++ List.replicate m .un) with
  | .rt d => .ok d
  | .nx _ => .ok .non
  | .er x _ => .err x
  | _ => .st
theorem rp_new {K : PySem.W.Frag} {S H0 H : Hp} {v : V} {d : D} (r : Rp K S v d) : Rv K H0 S H v d := by
  cases d with
  | new ds => cases r
  | bor ds => cases r
  | _ => exact r
theorem start_rel {K : PySem.W.Frag} {S H : Hp} {N : List Str} {vs : List V} {ds : List D} {m : Nat} (hs : Same S H) (r : RpAll K S vs ds) (hN : N.length = vs.length + m) : Rel K S H S H (L2.start N vs) (ds.map Slot.v ++ List.replicate m .un) := by
  have hm : N.length - vs.length = m := by omega
  have hl := r.length
  unfold L2.start
  rw [hm]
  refine ⟨Ext.refl hs, by simp [hl], fun i s e => ?_, fun i j l fs es n e1 e2 e3 e4 => ?_⟩
  · rw [List.getElem?_append] at e
    rw [List.getElem?_append]
    rw [List.length_map] at e ⊢
    rw [hl]
    split at e
    · rename_i h
      rw [if_pos h]
      rw [List.getElem?_map] at e ⊢
      cases e2 : ds[i]? with
      | none => rw [e2] at e; cases e
      | some d =>
        rw [e2] at e
        cases e
        obtain ⟨v, h1, h2⟩ := r.get e2
        rw [h1]
        exact ⟨_, rfl, v, rfl, h2⟩
    · rename_i h
      rw [if_neg h]
      rw [List.getElem?_replicate] at e ⊢
      split at e
      · rename_i h2
        cases e
        rw [if_pos h2]
        exact ⟨_, rfl, trivial⟩
      · cases e
  · rw [List.getElem?_append] at e1
    split at e1
    · rw [List.getElem?_map] at e1
      cases e5 : ds[i]? with
      | none => rw [e5] at e1; cases e1
      | some d => rw [e5] at e1; cases e1
    · rw [List.getElem?_replicate] at e1
      split at e1 <;> cases e1
/-- a def of the module by its name: what it makes of data -/
structure Def (P : Program) (w : World) (K : PySem.W.Frag) (mg : Str → Option Value) (base : Heap) (x : Str) (k n : Nat) (F : List D → Res D) : Prop where
  ex : ∃ (f : Addr) (fd : FuncData) (ps : List Str), FnG P w K mg base k f fd ps (spD K n F) ∧ mg x = some (.ref f) ∧ PySem.W.keepIn K (.ref f) = true ∧ Binds K fd ps []
/-- where a def of the text stands -/
structure At (K : PySem.W.Frag) (mg : Str → Option Value) (x : Str) (st : Stmt) (ps : List Str) : Prop where
  ex : ∃ (f : Addr) (fd : FuncData), Fun K x x st f fd ∧ mg x = some (.ref f) ∧ ∀ us : List Value, us.length = ps.length → bindArgs fd ⟨us, []⟩ = pure (ps.zip us)
theorem At.mk' {K : PySem.W.Frag} {h : Heap} {mg : Str → Option Value} {x : Str} {st : Stmt} {ps : List Str} {f : Addr} {oc : Value} {od an : Option Addr} {osl : Array (Option Value)} {kV doc pm cdv ct : Value} (X : K.In h) (G : h.Ns mainGlobals mg)
    (a : PySem.W.nsIn K mainGlobals x = some (some (.ref f))) (l : K.lookup f = some ⟨oc, od, .func (PySem.W.fnOf x x (defArgs st) (defBody st) (defScope st) .none kV doc pm an cdv ct), osl⟩)
    (c : PySem.W.codeIn K cdv x = true) (k : PySem.W.keepIn K (.ref f) = true)
    (b : ∀ (kV doc pm : Value) (an : Option Addr) (cdv ct : Value) (us : List Value), us.length = ps.length → bindArgs (PySem.W.fnOf x x (defArgs st) (defBody st) (defScope st) .none kV doc pm an cdv ct) ⟨us, []⟩ = pure (ps.zip us)) : At K mg x st ps :=
  ⟨f, _, fun_mk l c k, PySem.W.mg_of X G a, b kV doc pm an cdv ct⟩
section
variable {P : Program} {w : World} {K : PySem.W.Frag} {mg : Str → Option Value} {base : Heap}
theorem spD_run {N ps : List Str} {m k : Nat} {qual : Str} {st : Stmt} {f : Addr} {fd : FuncData} {fb : Es} (F : Fun K qual qual st f fd) (S : FnScope N ps (defScope st)) (hm : N.length = ps.length + m)
    (hb : ∀ (f : Addr) (cdv : Value) (A : Around) (outer : List Env) (s : Shared) (H : Hp) (E : XK), Room k (A.deeper (envOfC qual (defScope st) s.heap.objs.size f cdv)) → A.guards = some [] →
      PSs (cxOf (L2.CX P w) P w K mg base N qual (defScope st) f cdv A outer s H E) (defBody st) (TSt K (fun cls d _ H' => E cls d H') fb)) : FnG P w K mg base (k + 1) f fd ps (spD K ps.length (runF m fb)) := by
  obtain ⟨oc, od, kV, doc, pm, an, cdv, ct, osl, rfl, lk, hcd⟩ := F.ex
  refine fnG_of lk hcd S (fun vs H Q E h => h.1) fun A outer s H vs Q E hr gd h => ⟨_, hb f cdv A outer s H E hr gd, ?_⟩
  obtain ⟨hn, S1, ds, hs, r, q⟩ := h
  refine ⟨S1, H, S1, _, start_rel hs r (by rw [hn]; exact hm), ?_⟩
  unfold runF at q
  cases e : fb (ds.map Slot.v ++ List.replicate m .un) with
  | rt d => rw [e] at q; exact q
  | nx ρ => rw [e] at q; exact fun σ S' H' R => q _ S' H' R.ex .non
  | er x ρ => rw [e] at q; exact fun dd σ S' H' R hx => q dd S' H' R.ex hx
  | bk ρ => rw [e] at q; exact q.elim
  | ct ρ => rw [e] at q; exact q.elim
  | st => rw [e] at q; exact q.elim
theorem Def.of {N ps : List Str} {m k : Nat} {x : Str} {st : Stmt} {fb : Es} (a : At K mg x st ps) (S : FnScope N ps (defScope st)) (hm : N.length = ps.length + m)
    (hb : ∀ (f : Addr) (cdv : Value) (A : Around) (outer : List Env) (s : Shared) (H : Hp) (E : XK), Room k (A.deeper (envOfC x (defScope st) s.heap.objs.size f cdv)) → A.guards = some [] →
      PSs (cxOf (L2.CX P w) P w K mg base N x (defScope st) f cdv A outer s H E) (defBody st) (TSt K (fun cls d _ H' => E cls d H') fb)) : Def P w K mg base x (k + 1) ps.length (runF m fb) := by
  obtain ⟨f, fd, F, hm', hb'⟩ := a.ex
  exact ⟨f, fd, ps, spD_run F S hm hb, hm', F.kp, .all hb'⟩
theorem lawOf {N : List Str} {p : Str} {m k : Nat} {x : Str} {st : Stmt} {fb : Es} {fa : Addr} (a : At K mg x st [p]) (hfa : mg x = some (.ref fa)) (S : FnScope N [p] (defScope st)) (hm : N.length = 1 + m)
    (hb : ∀ (base : Heap) (f : Addr) (cdv : Value) (A : Around) (outer : List Env) (s : Shared) (H : Hp) (E : XK), Room k (A.deeper (envOfC x (defScope st) s.heap.objs.size f cdv)) → A.guards = some [] →
      PSs (cxOf (L2.CX P w) P w K mg base N x (defScope st) f cdv A outer s H E) (defBody st) (TSt K (fun cls d _ H' => E cls d H') fb)) :
    ∃ fd : FuncData, (∀ (s : Shared) (u : Value), BindsTo s fd ⟨[u], []⟩ [(p, u)]) ∧ ∀ base : Heap, K.In base → base.Ns mainGlobals mg → FnG P w K mg base (k + 1) fa fd [p] (spD K 1 (runF m fb)) := by
  obtain ⟨f, fd, F, hm', hb'⟩ := a.ex
  rw [hfa] at hm'
  cases hm'
  exact ⟨fd, fun s u => .of_eq (hb' [u] rfl), fun base _ _ => spD_run F S hm (hb base)⟩
end
def callE (n : Nat) (F : List D → Res D) (fs : Ea) : Ev := fun ρ => (fs ρ).bind fun ds => if ds.length = n then F ds else .st
section
variable {X : Cx} {W : WX} {x : Str} {k n : Nat} {F : List D → Res D} {fs : Ea} {e : Expr} {es : List Expr} {p pos : Pos}
theorem t_call {K : PySem.W.Frag} {σ : L2.St} {H : Hp} {Q : VK} (h : T K W (callE n F fs) σ H Q) : tCallG (spD K n F) W (TAs K W fs) σ H Q := by
  obtain ⟨S0, H0, S, ρ, R, p⟩ := h
  refine ⟨S0, H0, S, ρ, R, ?_⟩
  unfold callE at p
  cases e : fs ρ with
  | err y => rw [e] at p; exact p
  | st => rw [e] at p; exact p
  | ok ds =>
    rw [e] at p
    simp only [bind_ok] at p
    by_cases hl : ds.length = n
    · rw [if_pos hl] at p
      intro vs S1 H1 ex r
      refine ⟨by rw [r.length]; exact hl, S1, ds, ex.sh, r, ?_⟩
      cases ef : F ds with
      | ok d => rw [ef] at p; exact fun v S2 H2 e2 r2 => p v S2 H2 (ex.trans e2) (rp_new r2)
      | err y => rw [ef] at p; exact fun dd S2 H2 e2 hx => p dd S2 H2 (ex.trans e2) hx
      | st => rw [ef] at p; exact p
    · rw [if_neg hl] at p; exact p.elim
theorem d_call {j : Nat} (G : Def X.prog X.w X.K X.mg X.base x k n F) (hr : Room j X.A) (hj : k ≤ j) (gd : X.A.guards = some []) (tk : Takes X W) (ha : PA X (e :: es) (TAs X.K W fs)) (hg : Gl X x := by rfl) (hdb : (x == ("__debug__" : Str)) = false := by decide)
    (he : starEach (e :: es) X.env = (false, eval e X.env) :: starEach es X.env := by rfl) (hpl : (backTo pos (starEach es X.env)).any (·.1) = false := by rfl) : PE X (.Call (.Name x p) (e :: es) [] pos) (T X.K W (callE n F fs)) := by
  obtain ⟨f, fd, ps, G, hm, hk, hb⟩ := G.ex
  exact PE.imp (pe_callG G (hr.mono hj) gd hg hm hk hb tk ha hdb he hpl) fun _ _ _ h => t_call h
theorem d_call0 {j : Nat} (G : Def X.prog X.w X.K X.mg X.base x k n F) (hr : Room j X.A) (hj : k ≤ j) (gd : X.A.guards = some []) (tk : Takes X W) (hg : Gl X x := by rfl) (hdb : (x == ("__debug__" : Str)) = false := by decide) :
    PE X (.Call (.Name x p) [] [] pos) (T X.K W (callE n F nilA)) := by
  obtain ⟨f, fd, ps, G, hm, hk, hb⟩ := G.ex
  refine PE.imp (pe_callG0 G (hr.mono hj) gd hg hm hk hb tk hdb) fun σ H Q h => ?_
  obtain ⟨S0, H0, S, ρ, R, p⟩ := t_call h
  exact p [] S H (Ext.refl R.sh) .nil
end

/-! ### the end: the law's def, called upon the script -/
theorem lawG {l : PySem.W.OpenLaw} {n k : Nat} {q : Program} {loose : List Str} {XP : (Str → Option Value) → Heap → Prop} {YP : World → Heap → Prop} {d : DefRec} {K : Params → PySem.W.Frag} {x : Str}
    (hn : l.most = some n) (hn2 : n ≤ sizeLine) (hdf : d.params.defaults = []) (hr : Room k callerA) (hY : ∀ (w : World) (h : Heap), YP w h → (K w.params).In h)
    (hF : ∀ (w : World) (mg : Str → Option Value) (fa : Addr) (h : Heap), (K w.params).In h → h.Ns mainGlobals mg → mg d.name = some (.ref fa) →
      ∃ F : List D → Res D, (∀ ns : List Int, ns.length ≤ n → F [.frz ns] = .ok (.bl true)) ∧ ∃ fd : FuncData, (∀ (s : Shared) (u : Value), BindsTo s fd ⟨[u], []⟩ [(x, u)]) ∧ ∀ base : Heap, (K w.params).In base → base.Ns mainGlobals mg → FnG l.prog w (K w.params) mg base k fa fd [x] (spD (K w.params) 1 F)) : PySem.W.WalkO q loose XP YP l.row.toRowW d [] (fun f vs => PySem.call f vs) := by
  refine Att.attach_call hn hdf fun w s₀ s mg mb fa o pm cd doc a vs ns G Y _ _ _ hmg hobj hints hlen hgen => ?_
  have KX := hY w _ Y
  obtain ⟨F, hT, fd, hbind, hfn⟩ := hF w mg fa _ KX G.T.g hmg
  have small : ns.length ≤ sizeLine := Nat.le_trans hlen hn2
  have val := vals_ints hints
  have nvs := hints.length
  generalize K w.params = Kw at KX hfn
  -- what is tracked: the script alone, if it is no object of the module
  have main : ∀ H : Hp, SqL Kw H a (ns.map V.int) → HOk l.prog w H s.heap → (∀ b u, H b = some u → b = a ∧ (∃ ob zs, u = .frz ob (.lst zs)) ∧ Kw.lookup a = none) →
      codeAny (model l.prog w) callerA (.call (.ref fa) ⟨[.ref a], []⟩) (fun r s' => r = .ok (.ret (.bool true)) ∧ OldK s.heap s'.heap ∧ s'.os = s.os ∧ AllBare s'.gens) s := by
    intro H hS hok only
    have up : ∀ {b : Addr} {ob : Obj}, s.heap.get? b = some ob → (b = a → Kw.lookup a ≠ none) → (hidT s.heap H).get? b = some ob := fun {b ob} e ne => by
      refine hidT_get e ?_
      cases q : H b with
      | none => rfl
      | some u =>
        obtain ⟨h1, _, h3⟩ := only b u q
        exact (ne h1 h3).elim
    have dicts : ∀ {b : Addr} {m : Str → Option Value}, s.heap.Ns b m → (hidT s.heap H).Ns b m := by
      rintro b m ⟨ob, es, ep, e, hd, rest⟩
      refine ⟨ob, es, ep, hidT_get e ?_, hd, rest⟩
      cases q : H b with
      | none => rfl
      | some u =>
        obtain ⟨rfl, _, _⟩ := only b u q
        rw [hobj] at e
        cases e
        cases hd
    have kin : Kw.In (hidT s.heap H) := fun b ob e => up (KX b ob e) fun z => by rw [z] at e; rw [e]; exact fun y => by cases y
    have lim : (hidT s.heap H).NoLimit := by
      obtain ⟨mc, z1, z2⟩ := G.T.nolimit
      exact ⟨mc, dicts z1, z2⟩
    have env : Env0 l.prog w Kw mg (hidT s.heap H) callerA [] s H :=
      { frames := rfl, mod := ⟨kin, dicts G.T.g, ⟨mb, dicts G.T.b, G.T.builtins⟩, lim⟩, bs := fun b ob e => of_hidT e, bsz := Nat.le_of_eq (hidT_size _ _), funs := trivial, frf := fun b hb => (by cases hb), hok := hok, bare := .of_eq hgen }
    have prom : spD Kw 1 F [.ref a] H (fun v _ => v = .bl true) (fun _ _ _ => False) := by
      refine ⟨rfl, H, [.frz ns], Same.refl _, .cons (.frz hS) .nil, ?_⟩
      rw [hT ns hlen]
      intro v S' H' ex r
      cases r
      rfl
    refine codeAny_mono ((hfn _ kin (dicts G.T.g)).run callerA [] s H _ [.ref a] [.ref a] _ _ hr rfl env (hbind s (.ref a)) (.cons rfl .nil) prom) fun res s' h => ?_
    match res, h with
    | .error u, h =>
      obtain ⟨_, _, _, _, _, _, _, _, _, _, _, _, z⟩ := h
      exact z.elim
    | .ok (.ret u), h =>
      obtain ⟨v, H', os, bare, un, hok', rv, hv⟩ := h
      have hv : v = .bl true := hv
      subst hv
      cases rv
      refine ⟨rfl, OldK.of_keep fun b ob e => ?_, os, bare⟩
      cases q : H b with
      | none => exact un.keep b ob e q (by intro z; cases z) (by intro z; cases z)
      | some u =>
        obtain ⟨_, ⟨ob2, zs, rfl⟩, _⟩ := only b u q
        have now := hok' b _ (un.frzs b ob2 _ q)
        have ahead := hok b _ q
        obtain ⟨g1, _⟩ := ahead
        obtain ⟨g2, _⟩ := now
        rw [e] at g1
        cases g1
        exact g2
  cases own : Kw.lookup a with
  | some ob =>
    have there := KX a ob own
    rw [hobj] at there
    cases there
    refine main (fun _ => none) (.inr ⟨_, vs.toArray, _, own, rfl, rfl, rfl, ?_, ?_⟩) (fun b u z => by cases z) fun b u z => by cases z
    · rw [List.size_toArray, nvs]; exact small
    · simpa using val
  | none =>
    refine main (fun b => if b = a then some (.frz { cls := .type "list", data := .seq vs.toArray } (.lst (ns.map V.int))) else none) (.inl (.inr ⟨_, if_pos rfl⟩)) (fun b u z => ?_) fun b u z => ?_
    · by_cases hb : b = a
      · obtain rfl := Option.some.inj ((if_pos hb).symm.trans z)
        subst hb
        exact ⟨hobj, by rw [List.length_map]; exact small, vs, _, val, hobj⟩
      · exact absurd ((if_neg hb).symm.trans z) (by intro y; cases y)
    · by_cases hb : b = a
      · obtain rfl := Option.some.inj ((if_pos hb).symm.trans z)
        exact ⟨hb, ⟨_, _, rfl⟩, own⟩
      · exact absurd ((if_neg hb).symm.trans z) (by intro y; cases y)
end DL

namespace DL
open PySem L2

/-! ### a < b < c -/
def chE (g g' : D → D → Option D) (fa fb fc : Ev) : Ev := fun ρ => (fa ρ).bind fun x => (fb ρ).bind fun y => (ofO ((g x y).bind blO)).bind fun k => if k = true then (fc ρ).bind fun w => ofO (g' y w) else .ok (.bl false)
section
variable {X : Cx} {W : WX} {a b c : Expr} {fa fb fc : Ev} {g g' : D → D → Option D} {r r' : R2} {pos : Pos}
theorem t_ch {K : PySem.W.Frag} (hg : Serves2 K g r) (hg' : Serves2 K g' r') {σ : St} {H : Hp} {Q : VK} (h : T K W (chE g g' fa fb fc) σ H Q) : tChain r r' (T K W fa) (T K W fb) (T K W fc) σ H Q := by
  obtain ⟨S0, H0, S, ρ, R, p⟩ := h
  refine ⟨S0, H0, S, ρ, R, ?_⟩
  unfold chE at p
  cases ea : fa ρ with
  | err x => rw [ea] at p; exact p
  | st => rw [ea] at p; exact p
  | ok dx =>
    rw [ea] at p
    intro v S1 H1 e1 r1
    refine ⟨S0, H0, S1, ρ, R.ext e1, ?_⟩
    have p1 := p.ext e1
    simp only [bind_ok] at p1
    cases eb : fb ρ with
    | err x => rw [eb] at p1; exact p1
    | st => rw [eb] at p1; exact p1
    | ok dy =>
      rw [eb] at p1
      simp only [bind_ok] at p1
      intro w S2 H2 e2 r2
      have ra := (r1.rr e1.sh).mono e2.ss e2.hh
      have rb := r2.rr e2.sh
      refine hg S2 H2 v w dx dy _ e2.sh ra rb ?_
      have p2 := p1.ext e2
      cases eg : g dx dy with
      | none => rw [eg] at p2; exact p2
      | some z =>
        rw [eg] at p2
        cases z with
        | bl k =>
          intro u S3 H3 e3 r3
          cases r3
          refine ⟨k, rfl, ?_⟩
          have p3 := p2.ext e3
          cases k with
          | false => exact p3 _ S3 H3 (Ext.refl e3.sh) (.bl false)
          | true =>
            refine ⟨S0, H0, S3, ρ, ((R.ext e1).ext e2).ext e3, ?_⟩
            have p3 : PostD K W S3 H3 σ ((fc ρ).bind fun w => ofO (g' dy w)) Q := p3
            cases ec : fc ρ with
            | err x => rw [ec] at p3; exact p3
            | st => rw [ec] at p3; exact p3
            | ok dw =>
              rw [ec] at p3
              intro u4 S4 H4 e4 r4
              exact hg' S4 H4 w u4 dy dw Q e4.sh (rb.mono (e3.trans e4).ss (e3.trans e4).hh) (r4.rr e4.sh) (PostD.o (p3.ext e4))
        | _ => exact p2.elim
theorem d_chain {op op' : CmpOp} (ho : OpR X (compareOp op) r) (ho' : OpR X (compareOp op') r') (hg : Serves2 X.K g r) (hg' : Serves2 X.K g' r') (ha : PE X a (T X.K W fa)) (hb : PE X b (T X.K W fb)) (hc : PE X c (T X.K W fc))
    (hm : lastMarks [op, op'] [b, c] = false := by with_unfolding_all rfl) : PE X (.Compare a [op, op'] [b, c] pos) (T X.K W (chE g g' fa fb fc)) := PE.imp (pe_chain ho ho' ha hb hc hm) fun _ _ _ h => t_ch hg hg' h
theorem d_lele (ha : PE X a (T X.K W fa)) (hb : PE X b (T X.K W fb)) (hc : PE X c (T X.K W fc)) (hm : lastMarks [CmpOp.LtE, CmpOp.LtE] [b, c] = false := by with_unfolding_all rfl) :
    PE X (.Compare a [.LtE, .LtE] [b, c] pos) (T X.K W (chE leD leD fa fb fc)) := d_chain op_le op_le leD_ok leD_ok ha hb hc hm
theorem t_chn {op op' : CmpOp} (ho : OpR X (compareOp op) r) (ho' : OpR X (compareOp op') r') (hg : Serves2 X.K g r) (hg' : Serves2 X.K g' r') (ha : PE X a (T X.K W fa)) (hb : PE X b (T X.K W fb)) (hc : PE X c (T X.K W fc))
    (hm : lastMarks [op, op'] [b, c] = false := by with_unfolding_all rfl) : PT X (.Compare a [op, op'] [b, c] pos) (TB X.K W (tst0 (chE g g' fa fb fc))) := PT.imp (pt_chain ho ho' ha hb hc hm) fun σ H Q h => by
  obtain ⟨S0, H0, S, ρ, R, p⟩ := h
  refine t_ch hg hg' ⟨S0, H0, S, ρ, R, ?_⟩
  unfold tst0 at p
  cases e : chE g g' fa fb fc ρ with
  | ok d =>
    rw [e] at p
    cases d with
    | bl k => exact fun v S' H' ex r => by cases r; exact ⟨k, rfl, p S' H' ex⟩
    | _ => exact p.elim
  | err x => rw [e] at p; exact p
  | st => rw [e] at p; exact p
theorem t_lele (ha : PE X a (T X.K W fa)) (hb : PE X b (T X.K W fb)) (hc : PE X c (T X.K W fc)) (hm : lastMarks [CmpOp.LtE, CmpOp.LtE] [b, c] = false := by with_unfolding_all rfl) :
    PT X (.Compare a [.LtE, .LtE] [b, c] pos) (TB X.K W (tst0 (chE leD leD fa fb fc))) := t_chn op_le op_le leD_ok leD_ok ha hb hc hm
end

/-! ### isinstance -/
def tyOf : D → Option Value
  | .non => some (.type "NoneType")
  | .bl _ => some (.type "bool")
  | .int _ => some (.type "int")
  | .str _ => some (.type "str")
  | .lst _ | .new _ | .bor _ => some (.type "list")
  | .tup _ => some (.type "tuple")
  | _ => none
def isiE (kit : Value → Option Bool) (f : Ev) : Ev := e1 (fun d => ((tyOf d).bind kit).map .bl) f
/-- the answers of a built-in class -/
def kitT (T : String) : Value → Option Bool
  | .type a => kitB a T
  | _ => none
theorem kitT_ok {K : PySem.W.Frag} {T : String} : ∀ t b, kitT T t = some b → PySem.W.kitOne K t (.type T) = some b := by
  intro t b h
  cases t with
  | type a => exact kit_ty h
  | _ => cases h
theorem ty_ok {K : PySem.W.Frag} {S H : Hp} {v : V} {d : D} {t : Value} (hs : Same S H) (r : Rr K S H v d) (e : tyOf d = some t) : TyX K H v t := by
  cases d with
  | non => cases r; cases e; exact .base .non
  | bl b => cases r; cases e; exact .base (.bl b)
  | int b => cases r; cases e; exact .base (.int b)
  | str b => cases r; cases e; exact .base (.str b)
  | lst ds => obtain ⟨a, xs, rfl, h, _⟩ := r; cases e; exact .base (.lst h)
  | new ds => obtain ⟨a, xs, rfl, h, _⟩ := r; cases e; exact .base (.lst h)
  | bor ds => obtain ⟨a, xs, rfl, h, _⟩ := r; cases e; exact .base (.lst h)
  | tup ds =>
    cases r with
    | tup h q =>
      cases e
      rcases Same.seqT hs h with h | ⟨o, its, n, h1, h2, _⟩
      · rcases h with h | ⟨o, h⟩
        · exact .base (.tup h)
        · exact .fTuple h
      · exact .kTuple h1 h2
  | frz ns => cases e
  | obj C fs => cases e
section
variable {X : Cx} {W : WX} {a : Expr} {f : Ev} {p p2 pos : Pos} {T1 T2 : String}
theorem t_isi {K : PySem.W.Frag} {kit : Value → Option Bool} {c : V} {u : Value} (hc : ClsV c u) (hk : ∀ t b, kit t = some b → PySem.W.kitOne K t u = some b) {σ : St} {H : Hp} {Q : VK} (h : T K W (isiE kit f) σ H Q) :
    tCB (rIsi K) (tCons (T K W f) (tCons (tC c) tNil)) σ H Q := by
  refine t_e1 (r := fun v H1 Q => rIsi K [v, c] H1 Q) (fun S H v dx Q hs r p => ?_) h
  cases e : tyOf dx with
  | none => rw [e] at p; exact p.elim
  | some t =>
    rw [e] at p
    simp only [Option.bind_some] at p
    cases e2 : kit t with
    | none => rw [e2] at p; exact p.elim
    | some b =>
      rw [e2] at p
      exact ⟨v, c, t, u, b, rfl, hc, ty_ok hs r e, hk t b e2, p.val hs (.bl b)⟩
/-- isinstance(a, T), T a built-in class -/
theorem d_isi (hm : X.mg "isinstance" = none) (hT : X.mg (Str.ofString T1) = none) (hv : bootBuiltins (Str.ofString T1) = some (.type T1)) (ha : PE X a (T X.K W f)) (hg : Gl X "isinstance" := by rfl) (hgT : Gl X (Str.ofString T1) := by rfl)
    (hn2 : (Str.ofString T1) ≠ "__name__" := by decide) (hd2 : ((Str.ofString T1) == ("__debug__" : Str)) = false := by decide)
    (h1 : starEach [a, .Name (Str.ofString T1) p2] X.env = (false, eval a X.env) :: starEach [.Name (Str.ofString T1) p2] X.env := by rfl)
    (h2 : starEach [.Name (Str.ofString T1) p2] X.env = (false, eval (.Name (Str.ofString T1) p2) X.env) :: starEach [] X.env := by rfl)
    (hpl : (backTo pos (starEach [.Name (Str.ofString T1) p2] X.env)).any (·.1) = false := by rfl) :
    PE X (.Call (.Name "isinstance" p) [a, .Name (Str.ofString T1) p2] [] pos) (T X.K W (isiE (kitT T1) f)) :=
  PE.imp (pe_callB call_isi hg hm (by decide +kernel) (pa_cons ha (pa_cons (pe_bltn (v := .ty T1) hgT hT hv rfl hn2 hd2) pa_nil h2) h1) (by decide) (by decide) h1 hpl) fun _ _ _ h => t_isi (.ty T1) kitT_ok h
/-- isinstance(a, (T1, T2)) -/
def kitT2 (T1 T2 : String) : Value → Option Bool := fun t => match kitT T1 t with
  | some true => some true
  | some false => kitT T2 t
  | none => none
theorem t_isi2 {K : PySem.W.Frag} {σ : St} {H : Hp} {Q : VK} (h : T K W (isiE (kitT2 T1 T2) f) σ H Q) :
    tCB (rIsiT K) (tCons (T K W f) (tCons (tTup (tCons (tC (.ty T1)) (tCons (tC (.ty T2)) tNil))) tNil)) σ H Q := by
  refine t_e1 (r := fun v H1 Q => tTup (tCons (tC (.ty T1)) (tCons (tC (.ty T2)) tNil)) σ H1 fun x H2 => rIsiT K [v, x] H2 Q) (fun S H v dx Q hs r p => ?_) h
  refine ⟨by show 2 ≤ sizeLine; decide, fun q hq => ?_⟩
  cases e : tyOf dx with
  | none => rw [e] at p; exact p.elim
  | some t =>
    rw [e] at p
    simp only [Option.bind_some] at p
    cases e2 : kitT2 T1 T2 t with
    | none => rw [e2] at p; exact p.elim
    | some b =>
      rw [e2] at p
      have ex := Ext.mk0 hs hq (.tup [.ty T1, .ty T2])
      refine ⟨v, q, _, t, [.type T1, .type T2], b, rfl, upd_same, .cons (.ty T1) (.cons (.ty T2) .nil), ty_ok ex.sh (r.mono ex.ss ex.hh) e, ?_, p _ S _ ex (.bl b)⟩
      unfold kitT2 at e2
      cases e3 : kitT T1 t with
      | none => rw [e3] at e2; cases e2
      | some k =>
        rw [e3] at e2
        refine kitAny_cons (kitT_ok t k e3) (fun z => ?_) (fun z => ?_)
        · subst z
          cases e4 : kitT T2 t with
          | none => rw [e4] at e2; cases e2
          | some k2 =>
            rw [e4] at e2
            cases e2
            exact kitAny_cons (kitT_ok t b e4) (fun z => by rw [z]; exact kitAny_nil) (fun z => z)
        · subst z
          cases e2
          rfl
theorem d_isi2 {kt : Nat} {q1 q2 qt : Pos} (hm : X.mg "isinstance" = none) (hT1 : X.mg (Str.ofString T1) = none) (hv1 : bootBuiltins (Str.ofString T1) = some (.type T1)) (hT2 : X.mg (Str.ofString T2) = none) (hv2 : bootBuiltins (Str.ofString T2) = some (.type T2))
    (ha : PE X a (T X.K W f)) (hg : Gl X "isinstance" := by rfl) (hgT1 : Gl X (Str.ofString T1) := by rfl) (hgT2 : Gl X (Str.ofString T2) := by rfl)
    (hn1 : (Str.ofString T1) ≠ "__name__" := by decide) (hd1 : ((Str.ofString T1) == ("__debug__" : Str)) = false := by decide) (hn2 : (Str.ofString T2) ≠ "__name__" := by decide) (hd2 : ((Str.ofString T2) == ("__debug__" : Str)) = false := by decide)
    (k1 : starEach [.Name (Str.ofString T1) q1, .Name (Str.ofString T2) q2] X.env = (false, eval (.Name (Str.ofString T1) q1) X.env) :: starEach [.Name (Str.ofString T2) q2] X.env := by rfl)
    (k2 : starEach [.Name (Str.ofString T2) q2] X.env = (false, eval (.Name (Str.ofString T2) q2) X.env) :: starEach [] X.env := by rfl)
    (h1 : starEach [a, .Tuple [.Name (Str.ofString T1) q1, .Name (Str.ofString T2) q2] kt qt] X.env = (false, eval a X.env) :: starEach [.Tuple [.Name (Str.ofString T1) q1, .Name (Str.ofString T2) q2] kt qt] X.env := by rfl)
    (h2 : starEach [.Tuple [.Name (Str.ofString T1) q1, .Name (Str.ofString T2) q2] kt qt] X.env = (false, eval (.Tuple [.Name (Str.ofString T1) q1, .Name (Str.ofString T2) q2] kt qt) X.env) :: starEach [] X.env := by rfl)
    (hpl : (backTo pos (starEach [.Tuple [.Name (Str.ofString T1) q1, .Name (Str.ofString T2) q2] kt qt] X.env)).any (·.1) = false := by rfl) :
    PE X (.Call (.Name "isinstance" p) [a, .Tuple [.Name (Str.ofString T1) q1, .Name (Str.ofString T2) q2] kt qt] [] pos) (T X.K W (isiE (kitT2 T1 T2) f)) :=
  PE.imp (pe_callB call_isiT hg hm (by decide +kernel) (pa_cons ha (pa_cons (pe_tup (pa_cons (pe_bltn (v := .ty T1) hgT1 hT1 hv1 rfl hn1 hd1) (pa_cons (pe_bltn (v := .ty T2) hgT2 hT2 hv2 rfl hn2 hd2) pa_nil k2) k1)) pa_nil h2) h1) (by decide) (by decide) h1 hpl) fun _ _ _ h => t_isi2 h
end

/-! ### repr -/
section
mutual
theorem py_noDict : ∀ d : D, d.py.hasDict = false
  | .non => by rw [D.py]; simp only [PyData.hasDict]
  | .bl _ => by rw [D.py]; simp only [PyData.hasDict]
  | .int _ => by rw [D.py]; simp only [PyData.hasDict]
  | .str _ => by rw [D.py]; simp only [PyData.hasDict]
  | .lst ds => by rw [D.py]; simp only [PyData.hasDict]; exact pyAll_noDict ds
  | .tup ds => by rw [D.py]; simp only [PyData.hasDict]; exact pyAll_noDict ds
  | .new ds => by rw [D.py]; simp only [PyData.hasDict]; exact pyAll_noDict ds
  | .bor ds => by rw [D.py]; simp only [PyData.hasDict]; exact pyAll_noDict ds
  | .frz ns => by
    rw [D.py]
    simp only [PyData.hasDict]
    induction ns with
    | nil => simp only [List.map_nil, PyData.hasDictAll]
    | cons n ns ih => simp only [List.map_cons, PyData.hasDictAll, PyData.hasDict, ih, Bool.or_false]
  | .obj _ _ => by rw [D.py]; simp only [PyData.hasDict]
theorem pyAll_noDict : ∀ ds : List D, PyData.hasDictAll (D.pyAll ds) = false
  | [] => by rw [D.pyAll]; simp only [PyData.hasDictAll]
  | d :: ds => by rw [D.pyAll]; simp only [PyData.hasDictAll, py_noDict d, pyAll_noDict ds, Bool.or_false]
end
def okRepr (d : D) : Bool := d.pure && (d.py.showable && (decide (d.py.depth ≤ 60) && decide (d.py.shown.length ≤ LINE)))
def reprD (d : D) : Option D := if okRepr d then some (.str d.py.shown) else none
def rRepr (K : PySem.W.Frag) : List V → Hp → VK → Prop := fun xs H Q => ∃ (v : V) (d : PyData), xs = [v] ∧ Dp K H v d ∧ d.hasDict = false ∧ d.showable = true ∧ d.depth ≤ 60 ∧ d.shown.length ≤ sizeLine ∧ Q (.str d.shown) H
variable {X : Cx} {W : WX} {a : Expr} {f : Ev} {p pos : Pos}
theorem call_repr (gd : X.A.guards = some []) (hu : X.A.units + 64 < cLine) : CallR X (.builtin "repr") (rRepr X.K) := by
  intro pins s σ H xs us Q I rv h
  obtain ⟨v, d, rfl, hd, nd, hs, hdep, hl, q⟩ := h
  obtain ⟨u, rfl, ru⟩ := vals1 rv
  obtain ⟨as, r⟩ := Dp.reads I d v u hd ru
  have fin : ∀ (h' : Heap) (t : Tok) (tk : Nat), (∀ b o, s.heap.get? b = some o → h'.get? b = some o) → EP X pins σ Q (.str d.shown t) { s with heap := h', toks := tk } :=
    fun h' t tk k => ⟨.str d.shown, H, I.kept k, ⟨t, rfl⟩, q⟩
  cases r with
  | none =>
    rw [PyData.shown_none] at fin
    exact PySem.P.repr_of_none (fin s.heap _ _ fun _ _ e => e)
  | bool b =>
    rw [PyData.shown_bool] at fin
    exact PySem.P.repr_of_bool (fin s.heap _ _ fun _ _ e => e)
  | int i t =>
    rw [PyData.shown_int] at fin
    exact PySem.P.repr_of_int (by simpa [PyData.showable] using hs) (fin s.heap _ _ fun _ _ e => e)
  | str x t =>
    rw [PyData.shown_str] at fin hl
    exact PySem.P.repr_of_str (fin s.heap _ _ fun _ _ e => e) hl
  | list h1 h2 h3 h4 => exact repr_of_reads' (.list h1 h2 h3 h4) hs (PyData.noDict_hsm nd) gd (by omega) (fun _ _ e => e) fin hl
  | tuple h1 h2 h3 h4 => exact repr_of_reads' (.tuple h1 h2 h3 h4) hs (PyData.noDict_hsm nd) gd (by omega) (fun _ _ e => e) fin hl
  | dict => cases hd
theorem reprD_ok {K : PySem.W.Frag} : ServesC1 K reprD (rRepr K) := by
  intro S H v dx Q hs r p
  unfold reprD at p
  split at p
  · rename_i h
    unfold okRepr at h
    simp only [Bool.and_eq_true, decide_eq_true_eq] at h
    obtain ⟨h1, h2, h3, h4⟩ := h
    exact ⟨v, dx.py, rfl, r.dp hs h1, py_noDict dx, h2, h3, by rw [line_eq]; exact h4, p.val hs (.str _)⟩
  · exact p.elim
theorem d_repr (gd : X.A.guards = some []) (hu : X.A.units + 64 < cLine) (hm : X.mg "repr" = none) (ha : PE X a (T X.K W f)) (hg : Gl X "repr" := by rfl)
    (h1 : starEach [a] X.env = (false, eval a X.env) :: starEach [] X.env := by rfl) (hpl : (backTo pos (starEach [] X.env)).any (·.1) = false := by rfl) : PE X (.Call (.Name "repr" p) [a] [] pos) (T X.K W (e1 reprD f)) :=
  d_callB1 (call_repr gd hu) reprD_ok hg hm (by decide +kernel) ha h1 (by decide) (by decide) hpl
end

/-! ### raise -/
def raiseS (x : Ex) : Es := fun ρ => .er x ρ
section
variable {X : Cx} {W : WX} {e : Expr} {pos : Pos} {C : Addr}
theorem s_raise (hc : X.calm = true) (tk : Takes X W) (he : PMk X e (fun _ H Q => Q (.ref C) none H)) : PS X (.Raise (some e) none pos) (TSt X.K W (raiseS ⟨.ref C, none⟩)) := PS.imp (ps_raise hc tk he) fun D σ H q => by
  obtain ⟨S0, H0, S, ρ, R, p⟩ := q
  exact p none σ S H R rfl
end
/-- an error class of the module without an __init__ -/
structure Err (K : PySem.W.Frag) (mg : Str → Option Value) (x : Str) (C : Addr) : Prop where
  xc : PySem.W.excIn K C [.type "ValueError", .type "Exception", .type "BaseException", .type "object"] "ValueError.__new__" = true
  gC : mg x = some (.ref C)
  kC : PySem.W.keepIn K (.ref C) = true
  sub : PySem.W.subIn K (.ref C) (.type "BaseException") = some true
  ty : PySem.W.typeIn K (.ref C) = some (.type "type")
theorem pmk_err {X : Cx} {x m : Str} {C : Addr} {j : Nat} {p p2 pos : Pos} (e : Err X.K X.mg x C) (hg : Gl X x := by rfl) (hdb : (x == ("__debug__" : Str)) = false := by decide) :
    PMk X (.Call (.Name x p) [.Constant (.str m) j p2] [] pos) (fun _ H Q => Q (.ref C) none H) := pmk_own PySem.F.excBase_ValueError e.xc e.gC e.kC (raises_own e.sub e.ty) hg hdb
end DL

namespace DL
open PySem L2
section
open PySem.Spec PyProof.Rows HT
variable {prog : Program} {w : World} {A : Around} {E : Value → Shared → Prop} {s : Shared}
theorem places_back (n : Nat) : Builtin.Slice.slicePlaces ((n : Int) - 1) (-1) (-1) = n := by
  unfold Builtin.Slice.slicePlaces
  have h1 : ¬ ((-1 : Int) > 0) := by decide
  simp only [h1, if_false]
  split
  · have e : ((n : Int) - 1 - -1 - 1) / (- -1) + 1 = (n : Int) := by
      rw [show (- -1 : Int) = 1 by decide, Int.ediv_one]; omega
    rw [e, Int.toNat_natCast]
  · omega
theorem fm_congr {α β : Type} {f g : α → Option β} : ∀ {l : List α}, (∀ a ∈ l, f a = g a) → l.filterMap f = l.filterMap g
  | [], _ => rfl
  | a :: l, h => by
    rw [List.filterMap_cons, List.filterMap_cons, h a List.mem_cons_self, fm_congr fun b hb => h b (List.mem_cons_of_mem _ hb)]
theorem pick_back (items : Array Value) : ((List.range items.size).filterMap fun (m : Nat) => items[((items.size : Int) - 1 + (m : Int) * -1).toNat]?) = items.toList.reverse := by
  have e : (List.range items.size).filterMap (fun (m : Nat) => items[((items.size : Int) - 1 + (m : Int) * -1).toNat]?) = ((List.range items.size).map fun k => items.size - 1 - k).filterMap (items[·]?) := by
    rw [List.filterMap_map]
    refine fm_congr fun k hk => ?_
    have := List.mem_range.mp hk
    show _ = items[items.size - 1 - k]?
    have q : ((items.size : Int) - 1 + (k : Int) * -1).toNat = items.size - 1 - k := by omega
    rw [q]
  rw [e, PySem.W.krv_range, List.filterMap_reverse, PySem.W.krv_all]
theorem applied_back {sl : Addr} {vl vu vs : Value} {n : Nat} {Q : Int × Int × Nat → Shared → Prop} (hs : s.heap.IsSliceOf sl vl vu vs) (pl : IsPart vl none) (pu : IsPart vu none) (ps : IsPart vs (some (-1)))
    (h : Q ((n : Int) - 1, -1, n) s) : wpAny (model prog w) A (Builtin.Slice.sliceApplied (.ref sl) (pure (n : Int))) Q E s := by
  obtain ⟨os, hos, _, hds⟩ := id hs
  unfold Builtin.Slice.sliceApplied Builtin.Slice.sliceFields
  refine wpAny_bind (wpAny_bind (wpAny_field hos hds (x := vl) rfl (wpAny_bind (wpAny_field hos hds (x := vu) rfl (wpAny_bind (wpAny_field hos hds (x := vs) rfl (wpAny_pure ?_)))))))
  refine wpAny_bind (slicePart_ ps ?_)
  show wpAny _ _ (if ((-1 : Int) == 0) = true then _ else _) _ _ s
  rw [if_neg (by decide)]
  refine wpAny_bind (slicePart_ pl (wpAny_bind (slicePart_ pu (wpAny_bind (wpAny_pure ?_)))))
  show wpAny _ _ (match Builtin.Slice.sliceAdjust none none (-1) (n : Int) with | (lo, hi) => pure (lo, (-1 : Int), Builtin.Slice.slicePlaces lo hi (-1))) _ _ s
  show wpAny _ _ (pure ((n : Int) - 1, (-1 : Int), Builtin.Slice.slicePlaces ((n : Int) - 1) (-1) (-1))) _ _ s
  rw [places_back]
  exact wpAny_pure h
theorem getItem_back {t sl : Addr} {items : Array Value} {vl vu vs : Value} {Q : Value → Shared → Prop} (ht : IsTup s.heap t items) (hs : s.heap.IsSliceOf sl vl vu vs) (pl : IsPart vl none) (pu : IsPart vu none) (ps : IsPart vs (some (-1)))
    (hsz : items.size ≤ sizeLine) (h : Q (.ref s.heap.objs.size) { s with heap := s.heap.push { cls := .type "tuple", data := .seq items.toList.reverse.toArray } }) : wpAny (model prog w) A (getItem (.ref t) (.ref sl)) Q E s := by
  have fits : sizeOk (.seq items.toList.reverse.toArray) := by
    show items.toList.reverse.toArray.size ≤ sizeLine
    rw [List.size_toArray, List.length_reverse, Array.length_toList]; exact hsz
  obtain ⟨os, hos, hcs, _⟩ := id hs
  have isSl : s.TypeIs (.ref sl) "slice" := ⟨os, hos, hcs⟩
  unfold getItem
  try with_reducible refine wpAny_holding ?_
  first | refine wpAny_bind (wpAny_pure ?_) | skip
  refine wpAny_bind (wpAny_sequenceKey ht.typeIs (by decide) (wpAny_bind (wpAny_callSpecial?_slot (name := Str.ofString "__getitem__") ht.typeIs slot_tuple_getitem
    (wpAny_call_entry slot_tuple_getitem ht.typeIs entry_tuple_getitem ?_ (args_tuple_getitem _ _)))))
  show wpAny _ _ (Builtin.Tuple.tupleItemsOf (.ref t) >>= _) _ _ s
  refine wpAny_bind (tupleItemsOf_ ht (wpAny_bind (wpAny_typeOf isSl ?_)))
  rw [if_pos (by decide)]
  refine wpAny_bind (applied_back hs pl pu ps ?_)
  have part : ¬ ((((items.size : Int) - 1) == 0 && (-1 : Int) == 1 && items.size == items.size) = true) := by
    rw [show ((-1 : Int) == 1) = false by decide, Bool.and_false, Bool.false_and]; exact Bool.false_ne_true
  show wpAny _ _ (if (((items.size : Int) - 1) == 0 && (-1 : Int) == 1 && items.size == items.size) = true then _ else _) _ _ s
  rw [if_neg part, pick_back]
  first
    | exact wpAny_bind (m := Builtin.Tuple.tupleExact _) (wpAny_newObj_type (wpAny_pure ⟨_, rfl, wpAny_pure h⟩) fits)
    | exact wpAny_bind (m := Builtin.Tuple.tupleExact _) (wpAny_newObj_type (wpAny_bind (wpAny_pure (wpAny_pure ⟨_, rfl, wpAny_pure h⟩))) fits)
    | exact wpAny_bind (wpAny_bind (m := Builtin.Tuple.tupleExact _) (wpAny_newObj_type (wpAny_pure (wpAny_pure ⟨_, rfl, wpAny_pure h⟩)) fits))
    | exact wpAny_bind (wpAny_bind (m := Builtin.Tuple.tupleExact _) (wpAny_newObj_type (wpAny_pure ⟨_, rfl, wpAny_pure h⟩) fits))
end
/-- t[::-1] of a tuple -/
def tRevT (K : PySem.W.Frag) (te : TE) : TE := fun σ H Q => te σ H fun x H1 => ∃ a xs, x = .ref a ∧ SqT K H1 a xs ∧ ∀ p, H1 p = none → Q (.ref p) (upd H1 p (.tup xs.reverse))
section
open PySem.Spec PyProof.Rows
variable {X : Cx} {W : WX} {e : Expr} {te : TE} {f : Ev} {k : Nat} {p1 p2 p3 pos : Pos}
theorem pe_revT (he : PE X e te) : PE X (.Subscript e (.Slice none none (some (.UnaryOp .USub (.Constant (.int 1) k p1) p2)) p3) pos) (tRevT X.K te) := by
  refine ⟨fun pins s σ H Q I h => ?_⟩
  refine Subscript_ (thn (he.run pins s σ H _ I h) fun v s1 ⟨x, H1, I1, r1, a, xs, ex, hx, q⟩ => ?_)
  subst ex
  cases r1
  have step : PO X (some (.UnaryOp .USub (.Constant (.int 1) k p1) p2)) (tPart (tUn (rU fun i => .int (-i)) (tC (.int 1)))) := po_some (pe_un un_neg pe_int)
  refine wpAny_Slice (thn (po_none.run pins s1 σ H1 (fun o G => o = none ∧ G = H1) I1 ⟨rfl, rfl⟩) fun vl s2 ⟨_, G2, I2, pl, e1, e2⟩ => ?_)
  subst e1; subst e2
  refine thn (po_none.run pins s2 σ G2 (fun o G => o = none ∧ G = G2) I2 ⟨rfl, rfl⟩) fun vu s3 ⟨_, G3, I3, pu, e1, e2⟩ => ?_
  subst e1; subst e2
  refine thn (step.run pins s3 σ G3 (fun o G => o = some (-1) ∧ G = G3) I3 ⟨1, rfl, -1, rfl, rfl, rfl⟩) fun vs s4 ⟨_, G4, I4, ps, e1, e2⟩ => ?_
  subst e1; subst e2
  have I5 : Inv X pins σ G4 { s4 with heap := s4.heap.push { cls := .type "slice", data := .fields #[vl, vu, vs] } } := I4.kept (t' := s4.toks) fun b ob z => Heap.get?_push_of_some _ z
  obtain ⟨its, r, tt, hz⟩ := I5.tuple hx
  have count := r.length
  show wpAny _ _ (subscriptTail e (.Slice none none (some (.UnaryOp .USub (.Constant (.int 1) k p1) p2)) p3) (.ref a) (.ref s4.heap.objs.size)) _ _ _
  refine tail_any (ops := [.ref a, .ref s4.heap.objs.size]) tt.typeIs slot_tuple_getitem.lookup ?_ (by with_unfolding_all rfl)
  refine getItem_back tt (Heap.IsSliceOf.new _ vl vu vs) pl pu ps (by rw [List.size_toArray, ← count]; exact hz) ?_
  refine ⟨.ref _, _, I5.laid (t' := s4.toks) (o := .tup xs.reverse) (fun b ob z => Heap.get?_push_of_some _ z) (Nat.le_refl _) ?_, rfl, q _ (I5.hok.fresh (Nat.le_refl _))⟩
  exact ⟨by rw [List.length_reverse]; exact hz, its.reverse, r.reverse, _, Heap.get?_push_size _ rfl, rfl, _, by simp; rfl⟩
def revT : D → Option D
  | .tup ds => some (.tup ds.reverse)
  | _ => none
theorem d_revT (he : PE X e (T X.K W f)) : PE X (.Subscript e (.Slice none none (some (.UnaryOp .USub (.Constant (.int 1) k p1) p2)) p3) pos) (T X.K W (e1 revT f)) :=
  PE.imp (pe_revT he) fun σ H Q h => t_e1 (r := fun x H1 Q => ∃ a xs, x = .ref a ∧ SqT X.K H1 a xs ∧ ∀ p, H1 p = none → Q (.ref p) (upd H1 p (.tup xs.reverse))) (fun S H v dx Q hs r p => by
    cases dx with
    | tup ds =>
      cases r with
      | tup h q => exact ⟨_, _, rfl, Same.seqT hs h, p.tup hs q.reverse⟩
    | _ => exact p.elim) h
end
end DL

namespace DL
open PySem L2
/-! ### a list of the def's own is handed to an expression that makes no list -/
mutual
def D.flat : D → Bool
  | .lst _ | .new _ | .bor _ | .frz _ => false
  | .tup ds => D.flatAll ds
  | .obj _ fs => D.flatF fs
  | _ => true
def D.flatAll : List D → Bool
  | [] => true
  | d :: ds => D.flat d && D.flatAll ds
def D.flatF : List (Str × D) → Bool
  | [] => true
  | (_, d) :: ds => D.flat d && D.flatF ds
end
def without (S : Hp) (l : Addr) : Hp := fun b => if b = l then none else S b
theorem without_ne {S : Hp} {l b : Addr} (h : b ≠ l) : without S l b = S b := if_neg h
theorem without_same {S : Hp} {l : Addr} : without S l l = none := if_pos rfl
section
variable {K : PySem.W.Frag} {S : Hp} {l : Addr} {zs : List V} (hl : S l = some (.lst zs))
include hl
mutual
theorem Rp.less : ∀ {v : V} {d : D}, Rp K S v d → d.flat = true → Rp K (without S l) v d
  | _, _, .non, _ => .non
  | _, _, .bl b, _ => .bl b
  | _, _, .int i, _ => .int i
  | _, _, .str s, _ => .str s
  | _, _, .lst _ _, e => by rw [D.flat] at e; cases e
  | _, _, .frz _, e => by rw [D.flat] at e; cases e
  | _, _, .tup (a := a) h r, e => by
    rw [D.flat] at e
    refine .tup ?_ (RpAll.less r e)
    rcases h with h | h
    · rcases h with h | ⟨o, h⟩
      · exact .inl (.inl (by rw [without_ne fun z => by rw [z, hl] at h; cases h]; exact h))
      · exact .inl (.inr ⟨o, by rw [without_ne fun z => by rw [z, hl] at h; cases h]; exact h⟩)
    · exact .inr h
  | _, _, .obj h r, e => by
    rw [D.flat] at e
    exact .obj (by rw [without_ne fun z => by rw [z, hl] at h; cases h]; exact h) (RpF.less r e)
theorem RpAll.less : ∀ {vs : List V} {ds : List D}, RpAll K S vs ds → D.flatAll ds = true → RpAll K (without S l) vs ds
  | _, _, .nil, _ => .nil
  | _, _, .cons h r, e => by
    rw [D.flatAll, Bool.and_eq_true] at e
    exact .cons (Rp.less h e.1) (RpAll.less r e.2)
theorem RpF.less : ∀ {vs : List (Str × V)} {ds : List (Str × D)}, RpF K S vs ds → D.flatF ds = true → RpF K (without S l) vs ds
  | _, _, .nil, _ => .nil
  | _, _, .cons h r, e => by
    rw [D.flatF, Bool.and_eq_true] at e
    exact .cons (Rp.less h e.1) (RpF.less r e.2)
end
end
def borE (i : Nat) (f : Ev) : Ev := fun ρ => match ρ[i]? with
  | some (.own ds) => (f (ρ.set i (.v (.lst ds)))).bind fun d => if d.flat then .ok d else .st
  | _ => f ρ
theorem t_bor {K : PySem.W.Frag} {W : WX} {i : Nat} {f : Ev} {σ : St} {H : Hp} {Q : VK} (h : T K W (borE i f) σ H Q) : T K W f σ H Q := by
  obtain ⟨S0, H0, S, ρ, R, p⟩ := h
  unfold borE at p
  cases e : ρ[i]? with
  | none => rw [e] at p; exact ⟨S0, H0, S, ρ, R, p⟩
  | some s =>
    rw [e] at p
    cases s with
    | un => exact ⟨S0, H0, S, ρ, R, p⟩
    | exc a => exact ⟨S0, H0, S, ρ, R, p⟩
    | v d => exact ⟨S0, H0, S, ρ, R, p⟩
    | own ds =>
      obtain ⟨x, h1, l, xs, rfl, h2, h3, h4, h5⟩ := R.at_ i _ e
      have il : i < ρ.length := (List.getElem?_eq_some_iff.mp e).1
      have ss : Same S (upd S l (.lst xs)) := fun b u q => by rw [upd_ne (ne_of_none q h3)]; exact q
      -- the frozen state
      have RF : ∃ S', S' = upd S l (.lst xs) ∧ Rel K S0 H0 S' H σ (ρ.set i (.v (.lst ds))) := by
        refine ⟨_, rfl, ⟨R.ex.ss.trans ss, R.ex.hh, fun b u q => ?_, fun m q n => ?_⟩, by rw [List.length_set]; exact R.len, fun j s' q => ?_, fun j k m fs es n e1 e2 e3 e4 => ?_⟩
        · by_cases hb : b = l
          · subst hb; rw [upd_same] at q; rw [← q]; exact h4
          · rw [upd_ne hb] at q; exact R.ex.sh _ _ q
        · have : m ≠ l := fun z => n (by rw [z]; exact h2)
          rw [upd_ne this]; exact R.ex.fr m q n
        · by_cases hj : i = j
          · subst hj
            rw [List.getElem?_set_self il] at q
            cases q
            exact ⟨_, h1, _, rfl, .lst upd_same (h5.mono ss)⟩
          · rw [List.getElem?_set_ne hj] at q
            obtain ⟨x, g1, g2⟩ := R.at_ j s' q
            refine ⟨x, g1, ?_⟩
            cases s' with
            | un => trivial
            | exc a => exact g2
            | v d => obtain ⟨v, k1, k2⟩ := g2; exact ⟨v, k1, k2.mono ss⟩
            | own es =>
              obtain ⟨m, zs, k1, k2, k3, k4, k5⟩ := g2
              have : m ≠ l := fun z => R.dis i j l ds es hj e q h1 (by rw [g1, k1, z])
              exact ⟨m, zs, k1, k2, by rw [upd_ne this]; exact k3, k4, k5.mono ss⟩
        · have f : ∀ {m : Nat} {fs : List D}, (ρ.set i (.v (.lst ds)))[m]? = some (.own fs) → ρ[m]? = some (.own fs) := fun {m fs} q => by
            by_cases hm : i = m
            · subst hm; rw [List.getElem?_set_self il] at q; cases q
            · rw [List.getElem?_set_ne hm] at q; exact q
          exact R.dis j k m fs es n (f e1) (f e2) e3 e4
      obtain ⟨S', eS, RF⟩ := RF
      have back : ∀ {S2 H2 : Hp}, Ext S' H S2 H2 → S2 l = some (.lst xs) ∧ Ext S H (without S2 l) H2 := fun {S2 H2} ex => by
        have at2 : S2 l = some (.lst xs) := ex.ss _ _ (by rw [eS]; exact upd_same)
        refine ⟨at2, fun b u q => ?_, ex.hh, fun b u q => ?_, fun m q n => ?_⟩
        · have : b ≠ l := ne_of_none q h3
          rw [without_ne this]
          exact ex.ss _ _ (by rw [eS, upd_ne this]; exact q)
        · by_cases hb : b = l
          · subst hb; rw [without_same] at q; cases q
          · rw [without_ne hb] at q; exact ex.sh _ _ q
        · by_cases hm : m = l
          · rw [hm]; exact without_same
          · rw [without_ne hm]; exact ex.fr m (by rw [eS, upd_ne hm]; exact q) n
      refine ⟨S0, H0, S', _, RF, ?_⟩
      cases ef : f (ρ.set i (.v (.lst ds))) with
      | err x =>
        simp only [ef] at p
        exact fun dd S2 H2 ex hx => p dd _ H2 (back ex).2 hx
      | st => simp only [ef] at p; exact p
      | ok d =>
        simp only [ef, bind_ok] at p
        by_cases hf : d.flat = true
        · rw [if_pos hf] at p
          intro v S2 H2 ex r
          obtain ⟨a2, ex2⟩ := back ex
          refine p v _ H2 ex2 ?_
          cases d with
          | new es => rw [D.flat] at hf; cases hf
          | bor es => rw [D.flat] at hf; cases hf
          | lst es => rw [D.flat] at hf; cases hf
          | frz es => rw [D.flat] at hf; cases hf
          | _ => exact Rp.less a2 r hf
        · rw [if_neg hf] at p; exact p.elim
section
variable {X : Cx} {W : WX} {e : Expr} {f : Ev}
theorem d_bor {i : Nat} (h : PE X e (T X.K W f)) : PE X e (T X.K W (borE i f)) := PE.imp h fun _ _ _ q => t_bor q
end
/-! ### names in short -/
section
variable {X : Cx} {W : WX}
theorem dv (i : Nat) {x : Str} {pos : Pos} (hN : X.N[i]? = some x := by rfl) (hv : Vis X.env.scope x := by first | exact Or.inl rfl | exact Or.inr (Or.inl rfl) | exact Or.inr (Or.inr rfl)) (hd : (x == ("__debug__" : Str)) = false := by decide)
    (hcd : (x == ("__classdict__" : Str)) = false := by decide) : PE X (.Name x pos) (T X.K W (varE i)) := d_var hN hv hd hcd
end
end DL

namespace DL
open PySem L2

/-! ### what is shown of data without strings -/
def okS (s : Str) : Prop := ∀ c ∈ s.cps.toList, c < 0x110000
theorem okS_app {a b : Str} (ha : okS a) (hb : okS b) : okS (a ++ b) := fun c h => by
  rw [PyProof.Rows.cps_toList_append, List.mem_append] at h
  exact h.elim (ha c) (hb c)
theorem okS_int (i : Int) : okS (PyData.int i).shown := fun c h => by
  by_cases hc : c < 0x110000
  · exact hc
  · exact (PyProof.Rows.shown_int_free' (k := c) ⟨by omega, by omega⟩ i h).elim
theorem okS_textFrom : ∀ (ts : List Str) (k : Nat) (acc : Str), okS acc → (∀ t ∈ ts, okS t) → okS (textFrom k acc ts)
  | [], _, _, h, _ => h
  | t :: r, k, acc, h, ht => by
    show okS (textFrom (k + 1) (acc ++ (if k > 0 then ", " else "" : String) ++ t) r)
    refine okS_textFrom r _ _ (okS_app (okS_app h ?_) (ht t (List.mem_cons_self ..))) fun t' m => ht t' (List.mem_cons_of_mem _ m)
    split
    · show ∀ c ∈ (Str.ofString ", ").cps.toList, c < 0x110000
      decide
    · show ∀ c ∈ (Str.ofString "").cps.toList, c < 0x110000
      decide
theorem okS_join : ∀ (ts : List Str), (∀ t ∈ ts, okS t) → okS (Str.join ", " ts) := fun ts h c m => by
  rw [PyProof.Rows.mem_join] at m
  rcases m with ⟨t, ht, hc⟩ | ⟨_, m⟩
  · exact h t ht c hc
  · rw [PyProof.Rows.signs_sep] at m
    simp only [List.mem_cons, List.not_mem_nil, or_false] at m
    omega
theorem okS_list {ts : List Str} (h : ∀ t ∈ ts, okS t) : okS (listText ts) := by
  unfold listText
  refine okS_app (okS_textFrom ts _ _ ?_ h) ?_
  · show ∀ c ∈ (Str.ofString "[").cps.toList, c < 0x110000
    decide
  · show ∀ c ∈ (Str.ofString "]").cps.toList, c < 0x110000
    decide
theorem okS_tuple {ts : List Str} (h : ∀ t ∈ ts, okS t) : okS (tupleText ts) := by
  unfold tupleText
  refine okS_app (okS_app ?_ (okS_join ts h)) ?_
  · show ∀ c ∈ (Str.ofString "(").cps.toList, c < 0x110000
    decide
  · split
    · show ∀ c ∈ (Str.ofString ",)").cps.toList, c < 0x110000
      decide
    · show ∀ c ∈ (Str.ofString ")").cps.toList, c < 0x110000
      decide
mutual
/-- data without strings, its ints below 2 to 1920 -/
def D.num : D → Bool
  | .non => true
  | .bl _ => true
  | .int i => decide (i.natAbs.log2 < 1920)
  | .lst ds => D.numAll ds
  | .tup ds => D.numAll ds
  | .new ds => D.numAll ds
  | .bor ds => D.numAll ds
  | _ => false
def D.numAll : List D → Bool
  | [] => true
  | d :: ds => D.num d && D.numAll ds
end
mutual
/-- how long it is at most when shown -/
def D.shl : D → Nat
  | .int i => i.natAbs.log2 + 2
  | .lst ds => D.shlAll ds + 3
  | .tup ds => D.shlAll ds + 3
  | .new ds => D.shlAll ds + 3
  | .bor ds => D.shlAll ds + 3
  | _ => 5
def D.shlAll : List D → Nat
  | [] => 0
  | d :: ds => D.shl d + 2 + D.shlAll ds
end
theorem shown_lst (xs : List PyData) : (PyData.list xs).shown = listText (PyData.shownAll xs) := by rw [PyData.shown]
theorem shown_tup (xs : List PyData) : (PyData.tuple xs).shown = tupleText (PyData.shownAll xs) := by rw [PyData.shown]
structure Sh (d : D) : Prop where
  pure : d.pure = true
  show_ : d.py.showable = true
  ok : okS d.py.shown
  len : d.py.shown.length ≤ d.shl
structure ShAll (ds : List D) : Prop where
  pure : D.pureAll ds = true
  show_ : PyData.showableAll (D.pyAll ds) = true
  ok : ∀ t ∈ PyData.shownAll (D.pyAll ds), okS t
  len : ((PyData.shownAll (D.pyAll ds)).map (·.length)).sum + 2 * (PyData.shownAll (D.pyAll ds)).length ≤ D.shlAll ds
theorem sh_l {ds : List D} (h : ShAll ds) : (PyData.list (D.pyAll ds)).showable = true ∧ okS (PyData.list (D.pyAll ds)).shown ∧ (PyData.list (D.pyAll ds)).shown.length ≤ D.shlAll ds + 3 := by
  refine ⟨by rw [PyData.showable]; exact h.show_, by rw [shown_lst]; exact okS_list h.ok, ?_⟩
  rw [shown_lst]
  have := listText_len_le (PyData.shownAll (D.pyAll ds))
  have := h.len
  omega
theorem sh_t {ds : List D} (h : ShAll ds) : (PyData.tuple (D.pyAll ds)).showable = true ∧ okS (PyData.tuple (D.pyAll ds)).shown ∧ (PyData.tuple (D.pyAll ds)).shown.length ≤ D.shlAll ds + 3 := by
  refine ⟨by rw [PyData.showable]; exact h.show_, by rw [shown_tup]; exact okS_tuple h.ok, ?_⟩
  rw [shown_tup]
  have := tupleText_len_le (PyData.shownAll (D.pyAll ds))
  have := h.len
  omega
mutual
theorem num_sh : ∀ d : D, d.num = true → Sh d
  | .non, _ => ⟨by rw [D.pure] <;> (intros; simp_all), by rw [D.py]; rfl, by rw [D.py, PyData.shown_none]; (show ∀ c ∈ (Str.ofString "None").cps.toList, c < 0x110000); decide, by rw [D.py, PyData.shown_none]; exact (by decide : (Str.ofString "None").length ≤ 5)⟩
  | .bl b, _ => ⟨by rw [D.pure] <;> (intros; simp_all), by rw [D.py]; rfl, by
      rw [D.py, PyData.shown_bool]
      cases b
      · show ∀ c ∈ (Str.ofString "False").cps.toList, c < 0x110000
        decide
      · show ∀ c ∈ (Str.ofString "True").cps.toList, c < 0x110000
        decide, by
      rw [D.py, PyData.shown_bool]
      cases b
      · exact (by decide : (Str.ofString "False").length ≤ 5)
      · exact (by decide : (Str.ofString "True").length ≤ 5)⟩
  | .int i, h => ⟨by rw [D.pure] <;> (intros; simp_all), by rw [D.py, PyData.showable]; rw [D.num] at h; exact h, by rw [D.py]; exact okS_int i, by
      rw [D.py, PyData.shown_int, D.shl]
      have := int_text_length_le (a := i) (k := i.natAbs.log2 + 1) (by omega) (by omega)
      show (Str.ofString (toString i)).length ≤ _
      rw [ofString_length]
      exact this⟩
  | .lst ds, h => by
    have a := numAll_sh ds (by rw [D.num] at h; exact h)
    obtain ⟨b, c, d⟩ := sh_l a
    exact ⟨by rw [D.pure]; exact a.pure, by rw [D.py]; exact b, by rw [D.py]; exact c, by rw [D.py, D.shl]; exact d⟩
  | .new ds, h => by
    have a := numAll_sh ds (by rw [D.num] at h; exact h)
    obtain ⟨b, c, d⟩ := sh_l a
    exact ⟨by rw [D.pure]; exact a.pure, by rw [D.py]; exact b, by rw [D.py]; exact c, by rw [D.py, D.shl]; exact d⟩
  | .bor ds, h => by
    have a := numAll_sh ds (by rw [D.num] at h; exact h)
    obtain ⟨b, c, d⟩ := sh_l a
    exact ⟨by rw [D.pure]; exact a.pure, by rw [D.py]; exact b, by rw [D.py]; exact c, by rw [D.py, D.shl]; exact d⟩
  | .tup ds, h => by
    have a := numAll_sh ds (by rw [D.num] at h; exact h)
    obtain ⟨b, c, d⟩ := sh_t a
    exact ⟨by rw [D.pure]; exact a.pure, by rw [D.py]; exact b, by rw [D.py]; exact c, by rw [D.py, D.shl]; exact d⟩
  | .str _, h => by rw [D.num] at h; cases h; all_goals (intros; simp_all)
  | .frz _, h => by rw [D.num] at h; cases h; all_goals (intros; simp_all)
  | .obj _ _, h => by rw [D.num] at h; cases h; all_goals (intros; simp_all)
theorem numAll_sh : ∀ ds : List D, D.numAll ds = true → ShAll ds
  | [], _ => ⟨by rw [D.pureAll], by rw [D.pyAll]; rfl, (by intro t h; rw [D.pyAll, PyData.shownAll_nil] at h; cases h), by rw [D.pyAll, PyData.shownAll_nil]; exact Nat.zero_le _⟩
  | d :: ds, h => by
    rw [D.numAll, Bool.and_eq_true] at h
    have a := num_sh d h.1
    have b := numAll_sh ds h.2
    refine ⟨by rw [D.pureAll, a.pure, b.pure]; rfl, by rw [D.pyAll, PyData.showableAll, a.show_, b.show_]; rfl, ?_, ?_⟩
    · rw [D.pyAll]
      intro t m
      rw [PyData.shownAll_cons, List.mem_cons] at m
      rcases m with rfl | m
      · exact a.ok
      · exact b.ok t m
    · rw [D.pyAll, PyData.shownAll_cons, D.shlAll]
      have h1 := a.len
      have h2 := b.len
      simp only [List.map_cons, List.sum_cons, List.length_cons]
      omega
end
/-- what can be shown -/
def D.okR (d : D) : Bool := d.num && (decide (d.py.depth ≤ 60) && decide (d.shl ≤ LINE))
theorem okR_repr {d : D} (h : d.okR = true) : reprD d = some (.str d.py.shown) := by
  unfold D.okR at h
  simp only [Bool.and_eq_true, decide_eq_true_eq] at h
  obtain ⟨h1, h2, h3⟩ := h
  have s := num_sh d h1
  unfold reprD okRepr
  rw [if_pos]
  simp only [Bool.and_eq_true, decide_eq_true_eq]
  exact ⟨s.pure, s.show_, h2, Nat.le_trans s.len h3⟩
theorem okEq_str {s : Str} (h : okS s) : okEq (.str s) = true := by
  unfold okEq SeqAt.shaped
  have e : D.pure (.str s) = true := by rw [D.pure] <;> (intros; simp_all)
  rw [e, D.py]
  have e2 : PyData.canLay0 (.str s) = true := by
    rw [PyData.canLay0]
    unfold PyData.strOk
    rw [← Array.all_toList, List.all_eq_true]
    intro c m
    exact decide_eq_true (h c m)
  rw [e2]
  rfl
theorem ne_shown {d : D} (h : d.okR = true) : neD (.str d.py.shown) (.str d.py.shown) = some (.bl false) := by
  unfold D.okR at h
  simp only [Bool.and_eq_true, decide_eq_true_eq] at h
  have s := num_sh d h.1
  unfold neD
  rw [okEq_str s.ok]
  have e : PyData.eqv (D.str d.py.shown).py (D.str d.py.shown).py = true := by
    rw [D.py, PyData.eqv]
    exact beq_self_eq_true _
  rw [e]
  rfl
/-- repr(a) != repr(b) of equal data -/
theorem ne_repr {d : D} (h : d.okR = true) : (ofO (reprD d)).bind (fun x => (ofO (reprD d)).bind fun y => ofO (neD x y)) = .ok (.bl false) := by
  rw [okR_repr h]
  simp only [ofO_some, bind_ok]
  rw [ne_shown h]
  rfl
end DL

section
set_option autoImplicit true
namespace DL
open PySem L2

/-! ### how a text is reckoned -/
abbrev il (l : List Int) : List D := l.map D.int
theorem kB (a b : String) (x : Option Bool) (h : kitB a b = x := by decide +kernel) : kitB a b = x := h
theorem kitT_int_int : kitT "int" (.type "int") = some true := by unfold kitT; decide +kernel
theorem kitT_int_bool : kitT "int" (.type "bool") = some true := by unfold kitT; decide +kernel
theorem kitT_int_str : kitT "int" (.type "str") = some false := by unfold kitT; decide +kernel
theorem kitT_int_list : kitT "int" (.type "list") = some false := by unfold kitT; decide +kernel
theorem kitT_int_tuple : kitT "int" (.type "tuple") = some false := by unfold kitT; decide +kernel
theorem kitT_int_none : kitT "int" (.type "NoneType") = some false := by unfold kitT; decide +kernel
theorem kitT_bool_int : kitT "bool" (.type "int") = some false := by unfold kitT; decide +kernel
theorem kitT_bool_bool : kitT "bool" (.type "bool") = some true := by unfold kitT; decide +kernel
theorem kitT_bool_str : kitT "bool" (.type "str") = some false := by unfold kitT; decide +kernel
theorem kitT_bool_list : kitT "bool" (.type "list") = some false := by unfold kitT; decide +kernel
theorem kitT_bool_tuple : kitT "bool" (.type "tuple") = some false := by unfold kitT; decide +kernel
theorem kitT_bool_none : kitT "bool" (.type "NoneType") = some false := by unfold kitT; decide +kernel
theorem kitT_tuple_int : kitT "tuple" (.type "int") = some false := by unfold kitT; decide +kernel
theorem kitT_tuple_bool : kitT "tuple" (.type "bool") = some false := by unfold kitT; decide +kernel
theorem kitT_tuple_str : kitT "tuple" (.type "str") = some false := by unfold kitT; decide +kernel
theorem kitT_tuple_list : kitT "tuple" (.type "list") = some false := by unfold kitT; decide +kernel
theorem kitT_tuple_tuple : kitT "tuple" (.type "tuple") = some true := by unfold kitT; decide +kernel
theorem kitT_tuple_none : kitT "tuple" (.type "NoneType") = some false := by unfold kitT; decide +kernel
theorem kitT_list_int : kitT "list" (.type "int") = some false := by unfold kitT; decide +kernel
theorem kitT_list_bool : kitT "list" (.type "bool") = some false := by unfold kitT; decide +kernel
theorem kitT_list_str : kitT "list" (.type "str") = some false := by unfold kitT; decide +kernel
theorem kitT_list_list : kitT "list" (.type "list") = some true := by unfold kitT; decide +kernel
theorem kitT_list_tuple : kitT "list" (.type "tuple") = some false := by unfold kitT; decide +kernel
theorem kitT_list_none : kitT "list" (.type "NoneType") = some false := by unfold kitT; decide +kernel
theorem kitT_str_int : kitT "str" (.type "int") = some false := by unfold kitT; decide +kernel
theorem kitT_str_bool : kitT "str" (.type "bool") = some false := by unfold kitT; decide +kernel
theorem kitT_str_str : kitT "str" (.type "str") = some true := by unfold kitT; decide +kernel
theorem kitT_str_list : kitT "str" (.type "list") = some false := by unfold kitT; decide +kernel
theorem kitT_str_tuple : kitT "str" (.type "tuple") = some false := by unfold kitT; decide +kernel
theorem kitT_str_none : kitT "str" (.type "NoneType") = some false := by unfold kitT; decide +kernel
theorem eqD_int (i j : Int) : eqD (.int i) (.int j) = some (.bl (i == j)) := by
  unfold eqD okEq SeqAt.shaped
  rw [D.py, D.py]
  simp [D.pure, PyData.canLay0, PyData.depth, PyData.eqv]
theorem neD_int (i j : Int) : neD (.int i) (.int j) = some (.bl (i != j)) := by
  unfold neD okEq SeqAt.shaped
  rw [D.py, D.py]
  simp [D.pure, PyData.canLay0, PyData.depth, PyData.eqv, bne]
theorem eqD_bl (i j : Bool) : eqD (.bl i) (.bl j) = some (.bl (i == j)) := by
  unfold eqD okEq SeqAt.shaped
  rw [D.py, D.py]
  simp [D.pure, PyData.canLay0, PyData.depth, PyData.eqv]
theorem neD_bl (i j : Bool) : neD (.bl i) (.bl j) = some (.bl (i != j)) := by
  unfold neD okEq SeqAt.shaped
  rw [D.py, D.py]
  simp [D.pure, PyData.canLay0, PyData.depth, PyData.eqv, bne]
theorem pureAll_ints : ∀ l : List Int, D.pureAll (il l) = true
  | [] => by simp [D.pureAll]
  | i :: l => by simp only [il, List.map_cons, D.pureAll, D.pure, Bool.true_and]; exact pureAll_ints l
theorem canLay_ints : ∀ l : List Int, PyData.canLayAll0 (D.pyAll (il l)) = true
  | [] => by simp [D.pyAll, PyData.canLayAll0]
  | i :: l => by simp only [il, List.map_cons, D.pyAll, D.py, PyData.canLayAll0, PyData.canLay0, Bool.true_and]; exact canLay_ints l
theorem depth_ints : ∀ l : List Int, PyData.depthAll (D.pyAll (il l)) = 0
  | [] => by simp [D.pyAll, PyData.depthAll]
  | i :: l => by simp only [il, List.map_cons, D.pyAll, D.py, PyData.depthAll, PyData.depth]; rw [depth_ints l]; rfl
theorem eqv_ints : ∀ l m : List Int, PyData.eqvAll (D.pyAll (il l)) (D.pyAll (il m)) = (l == m)
  | [], [] => by simp [D.pyAll, PyData.eqvAll]
  | i :: l, [] => by simp [D.pyAll, PyData.eqvAll]
  | [], i :: l => by simp [D.pyAll, PyData.eqvAll]
  | i :: l, j :: m => by
    simp only [il, List.map_cons, D.pyAll, D.py, PyData.eqvAll, PyData.eqv]
    have := eqv_ints l m
    simp only [il] at this
    rw [this]
    rfl
theorem okEq_ints_t (l : List Int) : okEq (.tup (il l)) = true := by
  unfold okEq SeqAt.shaped
  rw [D.py, D.pure, pureAll_ints, PyData.canLay0, canLay_ints, PyData.depth, depth_ints]
  rfl
theorem okEq_ints_l (l : List Int) : okEq (.lst (il l)) = true := by
  unfold okEq SeqAt.shaped
  rw [D.py, D.pure, pureAll_ints, PyData.canLay0, canLay_ints, PyData.depth, depth_ints]
  rfl
theorem okEq_ints_n (l : List Int) : okEq (.new (il l)) = true := by
  unfold okEq SeqAt.shaped
  rw [D.py, D.pure, pureAll_ints, PyData.canLay0, canLay_ints, PyData.depth, depth_ints]
  rfl
theorem eqD_new_ints (l m : List Int) : eqD (.new (il l)) (.new (il m)) = some (.bl (l == m)) := by
  unfold eqD
  rw [okEq_ints_n, okEq_ints_n, D.py, D.py, PyData.eqv, eqv_ints]
  rfl
theorem numAll_ints : ∀ l : List Int, (∀ x ∈ l, x.natAbs.log2 < 1920) → D.numAll (il l) = true
  | [], _ => by simp [D.numAll]
  | i :: l, h => by
    simp only [il, List.map_cons, D.numAll, D.num]
    rw [decide_eq_true (h i (List.mem_cons_self ..))]
    exact numAll_ints l fun x m => h x (List.mem_cons_of_mem _ m)
theorem shl_ints (B : Nat) : ∀ l : List Int, (∀ x ∈ l, x.natAbs.log2 ≤ B) → D.shlAll (il l) ≤ (B + 4) * l.length
  | [], _ => by simp [D.shlAll]
  | i :: l, h => by
    simp only [il, List.map_cons, D.shlAll, D.shl, List.length_cons]
    have h1 := h i (List.mem_cons_self ..)
    have h2 := shl_ints B l fun x m => h x (List.mem_cons_of_mem _ m)
    simp only [il] at h2
    rw [Nat.mul_succ]
    omega
theorem okR_ints {l : List Int} (h : ∀ x ∈ l, x.natAbs.log2 ≤ 1900) (hl : l.length ≤ 8000) : (D.tup (il l)).okR = true := by
  unfold D.okR
  rw [D.num, numAll_ints l (fun x m => by have := h x m; omega), D.py, PyData.depth, depth_ints, D.shl]
  have := shl_ints 1900 l h
  simp only [Bool.true_and, Bool.and_eq_true, decide_eq_true_eq]
  refine ⟨by decide, ?_⟩
  have h2 : (1900 + 4) * l.length ≤ 1904 * 8000 := Nat.mul_le_mul_left _ hl
  show D.shlAll (il l) + 3 ≤ 16777216
  omega
theorem atI_ints {l : List Int} {i : Int} (h0 : 0 ≤ i) (h1 : i < l.length) : L2.atI (il l) i = some (.int (l.getD i.toNat 0)) := by
  unfold L2.atI L2.ixN
  rw [if_pos h0, if_pos (by simpa [il] using h1)]
  show (il l)[i.toNat]? = _
  have : i.toNat < l.length := by omega
  simp [il, List.getElem?_map, List.getD, List.getElem?_eq_getElem this]
theorem asInts_ints : ∀ l : List Int, D.asInts (il l) = some l
  | [] => rfl
  | i :: l => by simp only [il, List.map_cons, D.asInts]; rw [show D.asInts (List.map D.int l) = some l from asInts_ints l]; rfl
theorem asBls_bls : ∀ l : List Bool, D.asBls (l.map D.bl) = some l
  | [] => rfl
  | i :: l => by simp only [List.map_cons, D.asBls]; rw [asBls_bls l]; rfl
/-! the steps -/
def Out.next (o : Out) (g : Es) : Out := match o with
  | .nx ρ => g ρ
  | o => o
def Res.b1 (r : Res D) (g : D → Option D) : Res D := match r with
  | .ok x => ofO (g x)
  | .err x => .err x
  | .st => .st
def Res.b2 (r r' : Res D) (g : D → D → Option D) : Res D := match r, r' with
  | .ok x, .ok y => ofO (g x y)
  | .ok _, .err x => .err x
  | .ok _, .st => .st
  | .err x, _ => .err x
  | .st, _ => .st
def Res.tsts (r : Res Bool) (ρ : Rho) (f g : Es) : Out := match r with
  | .ok b => if b = true then f ρ else g ρ
  | .err x => .er x ρ
  | .st => .st
def Res.bo (r : Res D) (g : D → Option Bool) : Res Bool := match r with
  | .ok x => ofO (g x)
  | .err x => .err x
  | .st => .st
def Res.bb (r : Res Bool) (ρ : Rho) (f g : Eb) : Res Bool := match r with
  | .ok b => if b = true then f ρ else g ρ
  | .err x => .err x
  | .st => .st
def Res.bd (r : Res Bool) (ρ : Rho) (f g : Ev) : Res D := match r with
  | .ok b => if b = true then f ρ else g ρ
  | .err x => .err x
  | .st => .st
def Res.bc (r : Res D) (s : Res (List D)) : Res (List D) := match r, s with
  | .ok x, .ok xs => .ok (x :: xs)
  | .ok _, .err x => .err x
  | .ok _, .st => .st
  | .err x, _ => .err x
  | .st, _ => .st
def Res.bt (r : Res (List D)) (g : List D → Res D) : Res D := match r with
  | .ok x => g x
  | .err x => .err x
  | .st => .st
def Res.loop (r : Res (List D)) (G : D → Rho → Option Rho) (b : Es) (ρ : Rho) : Out := match r with
  | .ok ds => forO G b ds ρ
  | .err x => .er x ρ
  | .st => .st
def Out.stp (o : Out) (G : D → Rho → Option Rho) (b : Es) (ds : List D) : Out := match o with
  | .nx ρ2 => forO G b ds ρ2
  | .ct ρ2 => forO G b ds ρ2
  | .bk ρ2 => .nx ρ2
  | o => o
def Out.run (o : Out) : Res D := match o with
  | .rt d => .ok d
  | .nx _ => .ok .non
  | .er x _ => .err x
  | _ => .st
def lenIn (n : Nat) : Bool := decide (n ≤ LINE)
def app1 (ρ : Rho) (i : Nat) (ds : List D) (d : D) : Out := if ds.length < LINE then .nx (ρ.set i (.own (ds ++ [d]))) else .st

section
variable {ρ : Rho} {f g h : Es} {a b c : Ev} {t u : Eb} {fs : Ea} {i j : Nat} {d e : D} {ds es : List D} {x : Ex} {p q : Bool} {m n : Int} {s z : Str} {G : D → Rho → Option Rho} {k : D → Option D} {k2 k3 : D → D → Option D} {ko : D → Option Bool} {F : List D → Res D} {sl : Slot} {ns : List Int} {r r2 : Res D} {rs : Res (List D)} {kt : Value → Option Bool} {o : Option Bool} {v : Value}
theorem o0 : (Out.nx ρ).next g = g ρ := id rfl
theorem o1 : (Out.rt d).next g = .rt d := id rfl
theorem o2 : (Out.bk ρ).next g = .bk ρ := id rfl
theorem o3 : (Out.ct ρ).next g = .ct ρ := id rfl
theorem o4 : (Out.er x ρ).next g = .er x ρ := id rfl
theorem o5 : Out.st.next g = .st := id rfl
theorem o6 : (Res.ok d).b1 k = ofO (k d) := id rfl
theorem o7 : (Res.err x : Res D).b1 k = .err x := id rfl
theorem o8 : (Res.st : Res D).b1 k = .st := id rfl
theorem o9 : (Res.ok d).b2 (.ok e) k2 = ofO (k2 d e) := id rfl
theorem o10 : (Res.ok d).b2 (.err x) k2 = .err x := id rfl
theorem o11 : (Res.ok d).b2 .st k2 = .st := id rfl
theorem o12 : (Res.err x : Res D).b2 r k2 = .err x := id rfl
theorem o13 : (Res.st : Res D).b2 r k2 = .st := id rfl
theorem o14 : (Res.ok p).tsts ρ f g = if p = true then f ρ else g ρ := id rfl
theorem o15 : (Res.err x : Res Bool).tsts ρ f g = .er x ρ := id rfl
theorem o16 : (Res.st : Res Bool).tsts ρ f g = .st := id rfl
theorem o17 : (Res.ok d).bo ko = ofO (ko d) := id rfl
theorem o18 : (Res.err x : Res D).bo ko = .err x := id rfl
theorem o19 : (Res.st : Res D).bo ko = .st := id rfl
theorem o20 : (Res.ok p).bb ρ t u = if p = true then t ρ else u ρ := id rfl
theorem o21 : (Res.err x : Res Bool).bb ρ t u = .err x := id rfl
theorem o22 : (Res.st : Res Bool).bb ρ t u = .st := id rfl
theorem o23 : (Res.ok p).bd ρ a b = if p = true then a ρ else b ρ := id rfl
theorem o24 : (Res.err x : Res Bool).bd ρ a b = .err x := id rfl
theorem o25 : (Res.st : Res Bool).bd ρ a b = .st := id rfl
theorem o26 : (Res.ok d).bc (.ok ds) = .ok (d :: ds) := id rfl
theorem o27 : (Res.ok d).bc (.err x) = .err x := id rfl
theorem o28 : (Res.ok d).bc .st = .st := id rfl
theorem o29 : (Res.err x : Res D).bc rs = .err x := id rfl
theorem o30 : (Res.st : Res D).bc rs = .st := id rfl
theorem o31 : (Res.ok ds).bt F = F ds := id rfl
theorem o32 : (Res.err x : Res (List D)).bt F = .err x := id rfl
theorem o33 : (Res.st : Res (List D)).bt F = .st := id rfl
theorem o34 : (Res.ok ds).loop G f ρ = forO G f ds ρ := id rfl
theorem o35 : (Res.err x : Res (List D)).loop G f ρ = .er x ρ := id rfl
theorem o36 : (Res.st : Res (List D)).loop G f ρ = .st := id rfl
theorem o37 : (Out.nx ρ).stp G f ds = forO G f ds ρ := id rfl
theorem o38 : (Out.ct ρ).stp G f ds = forO G f ds ρ := id rfl
theorem o39 : (Out.bk ρ).stp G f ds = .nx ρ := id rfl
theorem o40 : (Out.rt d).stp G f ds = .rt d := id rfl
theorem o41 : (Out.er x ρ).stp G f ds = .er x ρ := id rfl
theorem o42 : Out.st.stp G f ds = .st := id rfl
theorem o43 : (Out.rt d).run = .ok d := id rfl
theorem o44 : (Out.nx ρ).run = .ok .non := id rfl
theorem o45 : (Out.er x ρ).run = .err x := id rfl
theorem o46 : (Out.bk ρ).run = .st := id rfl
theorem o47 : (Out.ct ρ).run = .st := id rfl
theorem o48 : Out.st.run = .st := id rfl
theorem at_seq : seqS f g ρ = (f ρ).next g := by unfold seqS Out.next; cases f ρ <;> rfl
theorem at_skip : skipS ρ = .nx ρ := id rfl
theorem at_asg : asgS i a ρ = (stE a ρ).then ρ fun d => .nx (ρ.set i (.v d)) := id rfl
def ownNew (ρ : Rho) (i : Nat) (d : D) : Out := match d with | .new ds => .nx (ρ.set i (.own ds)) | _ => .st
theorem own_new : ownNew ρ i (.new ds) = .nx (ρ.set i (.own ds)) := id rfl
theorem at_own : ownS i a ρ = (a ρ).then ρ (ownNew ρ i) := id rfl
theorem at_drop : dropS a ρ = (a ρ).then ρ fun _ => .nx ρ := id rfl
theorem at_ret : retS a ρ = (stE a ρ).then ρ .rt := id rfl
theorem at_retN : retN ρ = .rt .non := id rfl
def rO (s : Option Slot) : Out := match s with | some (.own ds) => .rt (.lst ds) | _ => .st
theorem rO_own : rO (some (.own ds)) = .rt (.lst ds) := id rfl
theorem at_retOwn : retOwn i ρ = rO ρ[i]? := id rfl
theorem at_if : ifS t f g ρ = (t ρ).tsts ρ f g := id rfl
theorem at_brk : brkS ρ = .bk ρ := id rfl
theorem at_cnt : cntS ρ = .ct ρ := id rfl
theorem at_raise : raiseS x ρ = .er x ρ := id rfl
def unp1 (is : List Nat) (ρ : Rho) (d : D) : Out := match (unpD d).bind fun ds => setAll is ds ρ with | some ρ' => .nx ρ' | none => .st
def ooS (o : Option Rho) : Out := match o with | some ρ' => .nx ρ' | none => .st
theorem ooS_some : ooS (some ρ) = .nx ρ := id rfl
theorem unp1_tup : unp1 is ρ (.tup ds) = ooS (setAll is ds ρ) := by unfold unp1 ooS unpD; rfl
theorem at_unp : unpS is a ρ = (stE a ρ).then ρ (unp1 is ρ) := id rfl
theorem setAll_nil : setAll [] [] ρ = some ρ := id rfl
theorem setAll_cons : setAll (i :: is) (d :: ds) ρ = setAll is ds (ρ.set i (.v d)) := id rfl
def par1 (r : Res (List D)) (i j : Nat) (ρ : Rho) : Out := match r with | .ok [a, b] => .nx ((ρ.set i (.v a)).set j (.v b)) | .err x => .er x ρ | _ => .st
theorem par1_ok : par1 (.ok [d, e]) i j ρ = .nx ((ρ.set i (.v d)).set j (.v e)) := id rfl
theorem par1_err : par1 (.err x) i j ρ = .er x ρ := id rfl
theorem at_par2 : par2S i j fs ρ = par1 (fs ρ) i j ρ := id rfl
def frz1 (s : Option Slot) (i : Nat) (f : Es) (ρ : Rho) : Out := match s with | some (.own ds) => f (ρ.set i (.v (.lst ds))) | _ => f ρ
theorem frz1_own : frz1 (some (.own ds)) i f ρ = f (ρ.set i (.v (.lst ds))) := id rfl
theorem frz1_v : frz1 (some (.v d)) i f ρ = f ρ := id rfl
theorem at_frz : frzS i f ρ = frz1 ρ[i]? i f ρ := id rfl
def app0 (s : Option Slot) (i : Nat) (a : Ev) (ρ : Rho) : Out := match s with | some (.own ds) => (stE a ρ).then ρ (app1 ρ i ds) | _ => .st
theorem app0_own : app0 (some (.own ds)) i a ρ = (stE a ρ).then ρ (app1 ρ i ds) := id rfl
theorem at_app : appS i a ρ = app0 ρ[i]? i a ρ := id rfl
theorem app1_ok (h : ds.length < 16777216) : app1 ρ i ds d = .nx (ρ.set i (.own (ds ++ [d]))) := if_pos h
def pop0 (s : Option Slot) (i : Nat) (ρ : Rho) : Out := match s with | some (.own ds) => if ds.isEmpty then .st else .nx (ρ.set i (.own ds.dropLast)) | _ => .st
theorem pop0_own : pop0 (some (.own ds)) i ρ = if ds.isEmpty then .st else .nx (ρ.set i (.own ds.dropLast)) := id rfl
theorem at_pop : popS i ρ = pop0 ρ[i]? i ρ := id rfl
def clr0 (s : Option Slot) (i : Nat) (ρ : Rho) : Out := match s with | some (.own ds) => .nx (ρ.set i (.own [])) | _ => .st
theorem clr0_own : clr0 (some (.own ds)) i ρ = .nx (ρ.set i (.own [])) := id rfl
theorem at_clr : clrS i ρ = clr0 ρ[i]? i ρ := id rfl
def aug1 (ρ : Rho) (i : Nat) (n : Int) (d : D) : Out := match d with | .int m => .nx (ρ.set i (.v (.int (n + m)))) | _ => .st
def aug0 (s : Option Slot) (i : Nat) (a : Ev) (ρ : Rho) : Out := match s with | some (.v (.int n)) => (a ρ).then ρ (aug1 ρ i n) | _ => .st
theorem aug0_int : aug0 (some (.v (.int n))) i a ρ = (a ρ).then ρ (aug1 ρ i n) := id rfl
theorem aug1_int : aug1 ρ i n (.int m) = .nx (ρ.set i (.v (.int (n + m)))) := id rfl
theorem at_aug : augS i a ρ = aug0 ρ[i]? i a ρ := id rfl
theorem at_for : forS fs G f ρ = (fs ρ).loop G f ρ := id rfl
theorem for_nil : forO G f [] ρ = .nx ρ := id rfl
def gnx (o : Option Rho) (G : D → Rho → Option Rho) (f : Es) (ds : List D) : Out := match o with | none => .st | some ρ1 => (f ρ1).stp G f ds
theorem gnx_some : gnx (some ρ) G f ds = (f ρ).stp G f ds := id rfl
theorem for_cons : forO G f (d :: ds) ρ = gnx (G d ρ) G f ds := by unfold gnx Out.stp; rw [forO]; all_goals (cases G d ρ with | none => rfl | some ρ1 => cases h : f ρ1 <;> simp only [h])
theorem at_gN : gN i d ρ = some (ρ.set i (.v d)) := id rfl
theorem at_gU : gU is (.tup ds) ρ = setAll is ds ρ := id rfl
theorem at_run : runF i f ds = (f (ds.map Slot.v ++ List.replicate i .un)).run := id rfl
theorem at_e1 : e1 k a ρ = (a ρ).b1 k := by unfold e1 Res.b1; cases a ρ <;> rfl
theorem at_e2 : e2 k2 a b ρ = (a ρ).b2 (b ρ) k2 := by unfold e2 Res.b2; cases a ρ <;> cases b ρ <;> rfl
theorem at_st : stE a ρ = (a ρ).b1 D.settle := by unfold stE; exact at_e1
def vO (s : Option Slot) : Res D := match s with | some (.v d) => .ok d | some (.own ds) => .ok (.bor ds) | _ => .st
theorem vO_v : vO (some (.v d)) = .ok d := id rfl
theorem vO_own : vO (some (.own ds)) = .ok (.bor ds) := id rfl
theorem at_var : varE i ρ = vO ρ[i]? := id rfl
theorem at_c : cE d ρ = .ok d := id rfl
theorem settle_non : D.settle (.non) = some (.non) := id rfl
theorem settle_bl : D.settle (.bl p) = some (.bl p) := id rfl
theorem settle_int : D.settle (.int n) = some (.int n) := id rfl
theorem settle_str : D.settle (.str s) = some (.str s) := id rfl
theorem settle_lst : D.settle (.lst ds) = some (.lst ds) := id rfl
theorem settle_tup : D.settle (.tup ds) = some (.tup ds) := id rfl
theorem settle_frz : D.settle (.frz ns) = some (.frz ns) := id rfl
theorem settle_new : D.settle (.new ds) = some (.lst ds) := id rfl
theorem add_int : addD (.int m) (.int n) = some (.int (m + n)) := id rfl
theorem add_str (h : s.length + z.length ≤ 16777216) : addD (.str s) (.str z) = some (.str (s ++ z)) := if_pos h
theorem add_tup (h : ds.length + es.length ≤ 16777216) : addD (.tup ds) (.tup es) = some (.tup (ds ++ es)) := if_pos h
theorem add_lst_lst (h : ds.length + es.length ≤ 16777216) : addD (.lst ds) (.lst es) = some (.new (ds ++ es)) := if_pos h
theorem add_lst_new (h : ds.length + es.length ≤ 16777216) : addD (.lst ds) (.new es) = some (.new (ds ++ es)) := if_pos h
theorem add_lst_bor (h : ds.length + es.length ≤ 16777216) : addD (.lst ds) (.bor es) = some (.new (ds ++ es)) := if_pos h
theorem add_new_lst (h : ds.length + es.length ≤ 16777216) : addD (.new ds) (.lst es) = some (.new (ds ++ es)) := if_pos h
theorem add_new_new (h : ds.length + es.length ≤ 16777216) : addD (.new ds) (.new es) = some (.new (ds ++ es)) := if_pos h
theorem add_new_bor (h : ds.length + es.length ≤ 16777216) : addD (.new ds) (.bor es) = some (.new (ds ++ es)) := if_pos h
theorem add_bor_lst (h : ds.length + es.length ≤ 16777216) : addD (.bor ds) (.lst es) = some (.new (ds ++ es)) := if_pos h
theorem add_bor_new (h : ds.length + es.length ≤ 16777216) : addD (.bor ds) (.new es) = some (.new (ds ++ es)) := if_pos h
theorem add_bor_bor (h : ds.length + es.length ≤ 16777216) : addD (.bor ds) (.bor es) = some (.new (ds ++ es)) := if_pos h
theorem sub_int : subD (.int m) (.int n) = some (.int (m - n)) := id rfl
theorem mul_r (h1 : -18446744073709551616 < n) (h2 : n < 18446744073709551616) : mulD (.int m) (.int n) = some (.int (m * n)) := if_pos (.inl (.inr ⟨by omega, by omega⟩))
theorem mul_l (h1 : -18446744073709551616 < m) (h2 : m < 18446744073709551616) : mulD (.int m) (.int n) = some (.int (m * n)) := if_pos (.inl (.inl ⟨by omega, by omega⟩))
theorem mul_x (h : mulOk m n) : mulD (.int m) (.int n) = some (.int (m * n)) := if_pos h
theorem fdiv_p (h : 0 < n) (h2 : n < 18446744073709551616) : fdivD (.int m) (.int n) = some (.int (m / n)) := if_pos ⟨h, by
    rcases Nat.eq_zero_or_pos n.natAbs with e | e
    · rw [e]; decide
    · exact Nat.lt_of_lt_of_le ((Nat.log2_lt (by omega)).mpr (show n.natAbs < 2 ^ 64 by omega)) (by decide)⟩
theorem mod_p (h : 0 < n) : modD (.int m) (.int n) = some (.int (m % n)) := if_pos h
theorem pow_p (h : 0 ≤ n) (h1 : n ≤ 1000000) (h2 : -18446744073709551616 < m) (h3 : m < 18446744073709551616) : powD (.int m) (.int n) = some (.int (m ^ n.toNat)) := if_pos ⟨h, h1, by omega⟩
theorem neg_int : negD (.int n) = some (.int (-n)) := id rfl
theorem lt_int : ltD (.int m) (.int n) = some (.bl (decide (m < n))) := id rfl
theorem le_int : leD (.int m) (.int n) = some (.bl (decide (m ≤ n))) := id rfl
theorem gt_int : gtD (.int m) (.int n) = some (.bl (decide (n < m))) := id rfl
theorem ge_int : geD (.int m) (.int n) = some (.bl (decide (n ≤ m))) := id rfl
theorem is_bl : isD (.bl p) (.bl q) = some (.bl (decide (p = q))) := id rfl
theorem ni_bl : notIsD (.bl p) (.bl q) = some (.bl (!decide (p = q))) := id rfl
theorem is_n_non : isD (.non) .non = some (.bl true) := id rfl
theorem ni_n_non : notIsD (.non) .non = some (.bl false) := id rfl
theorem is_n_bl : isD (.bl p) .non = some (.bl false) := id rfl
theorem ni_n_bl : notIsD (.bl p) .non = some (.bl true) := id rfl
theorem is_n_int : isD (.int n) .non = some (.bl false) := id rfl
theorem ni_n_int : notIsD (.int n) .non = some (.bl true) := id rfl
theorem is_n_str : isD (.str s) .non = some (.bl false) := id rfl
theorem ni_n_str : notIsD (.str s) .non = some (.bl true) := id rfl
theorem is_n_lst : isD (.lst ds) .non = some (.bl false) := id rfl
theorem ni_n_lst : notIsD (.lst ds) .non = some (.bl true) := id rfl
theorem is_n_tup : isD (.tup ds) .non = some (.bl false) := id rfl
theorem ni_n_tup : notIsD (.tup ds) .non = some (.bl true) := id rfl
theorem is_n_new : isD (.new ds) .non = some (.bl false) := id rfl
theorem ni_n_new : notIsD (.new ds) .non = some (.bl true) := id rfl
theorem is_n_bor : isD (.bor ds) .non = some (.bl false) := id rfl
theorem ni_n_bor : notIsD (.bor ds) .non = some (.bl true) := id rfl
theorem items_lst : D.items (.lst ds) = some ds := id rfl
theorem len_lst : lenD (.lst ds) = some (.int ds.length) := id rfl
theorem list_lst : listD (.lst ds) = some (.new ds) := id rfl
theorem tuple_lst : tupleD (.lst ds) = some (.tup ds) := id rfl
theorem ix_lst : ixD (.lst ds) (.int n) = L2.atI ds n := id rfl
theorem tru_lst : truD (.lst ds) = some (!ds.isEmpty) := id rfl
theorem rev_lst : revD (.lst ds) = some (.new ds.reverse) := id rfl
theorem slice_lst : sliceD (.lst ds) l2 h2 = some (.new (cutL ds l2 h2)) := id rfl
theorem ty_lst : tyOf (.lst ds) = some (.type "list") := id rfl
theorem sum_lst : sumD (.lst ds) = (D.asInts ds).map fun ns => .int ns.sum := id rfl
theorem all_lst : allD (.lst ds) = (D.asBls ds).map fun ns => .bl (ns.all id) := id rfl
theorem any_lst : anyD (.lst ds) = (D.asBls ds).map fun ns => .bl (ns.any id) := id rfl
theorem items_new : D.items (.new ds) = some ds := id rfl
theorem len_new : lenD (.new ds) = some (.int ds.length) := id rfl
theorem list_new : listD (.new ds) = some (.new ds) := id rfl
theorem tuple_new : tupleD (.new ds) = some (.tup ds) := id rfl
theorem ix_new : ixD (.new ds) (.int n) = L2.atI ds n := id rfl
theorem tru_new : truD (.new ds) = some (!ds.isEmpty) := id rfl
theorem rev_new : revD (.new ds) = some (.new ds.reverse) := id rfl
theorem slice_new : sliceD (.new ds) l2 h2 = some (.new (cutL ds l2 h2)) := id rfl
theorem ty_new : tyOf (.new ds) = some (.type "list") := id rfl
theorem sum_new : sumD (.new ds) = (D.asInts ds).map fun ns => .int ns.sum := id rfl
theorem all_new : allD (.new ds) = (D.asBls ds).map fun ns => .bl (ns.all id) := id rfl
theorem any_new : anyD (.new ds) = (D.asBls ds).map fun ns => .bl (ns.any id) := id rfl
theorem items_bor : D.items (.bor ds) = some ds := id rfl
theorem len_bor : lenD (.bor ds) = some (.int ds.length) := id rfl
theorem list_bor : listD (.bor ds) = some (.new ds) := id rfl
theorem tuple_bor : tupleD (.bor ds) = some (.tup ds) := id rfl
theorem ix_bor : ixD (.bor ds) (.int n) = L2.atI ds n := id rfl
theorem tru_bor : truD (.bor ds) = some (!ds.isEmpty) := id rfl
theorem rev_bor : revD (.bor ds) = some (.new ds.reverse) := id rfl
theorem slice_bor : sliceD (.bor ds) l2 h2 = some (.new (cutL ds l2 h2)) := id rfl
theorem ty_bor : tyOf (.bor ds) = some (.type "list") := id rfl
theorem sum_bor : sumD (.bor ds) = (D.asInts ds).map fun ns => .int ns.sum := id rfl
theorem all_bor : allD (.bor ds) = (D.asBls ds).map fun ns => .bl (ns.all id) := id rfl
theorem any_bor : anyD (.bor ds) = (D.asBls ds).map fun ns => .bl (ns.any id) := id rfl
theorem len_tup : lenD (.tup ds) = some (.int ds.length) := id rfl
theorem len_frz : lenD (.frz ns) = some (.int ns.length) := id rfl
theorem len_str (h : s.length ≤ 16777216) : lenD (.str s) = some (.int s.length) := if_pos h
theorem list_tup : listD (.tup ds) = some (.new ds) := id rfl
theorem list_frz : listD (.frz ns) = some (.new (ns.map .int)) := id rfl
theorem tuple_tup : tupleD (.tup ds) = some (.tup ds) := id rfl
theorem ix_tup : ixD (.tup ds) (.int n) = L2.atI ds n := id rfl
theorem tru_tup : truD (.tup ds) = some (!ds.isEmpty) := id rfl
theorem tru_bl : truD (.bl p) = some p := id rfl
theorem tru_int : truD (.int n) = some (n != 0) := id rfl
theorem tru_non : truD .non = some false := id rfl
theorem slice_tup : sliceD (.tup ds) l2 h2 = some (.tup (cutL ds l2 h2)) := id rfl
theorem slice_frz : sliceD (.frz ns) l2 h2 = some (.new ((cutL ns l2 h2).map .int)) := id rfl
theorem revT_tup : revT (.tup ds) = some (.tup ds.reverse) := id rfl
theorem int_int : intD (.int n) = some (.int n) := id rfl
theorem int_bl : intD (.bl p) = some (.int (if p then 1 else 0)) := id rfl
theorem abs_int : absD (.int n) = some (.int (if n < 0 then -n else n)) := id rfl
theorem max_int : maxD (.int m) (.int n) = some (.int (if n > m then n else m)) := id rfl
theorem min_int : minD (.int m) (.int n) = some (.int (if n < m then n else m)) := id rfl
theorem blO_bl : blO (.bl p) = some p := id rfl
theorem ty_non : tyOf (.non) = some (.type "NoneType") := id rfl
theorem ty_bl : tyOf (.bl p) = some (.type "bool") := id rfl
theorem ty_int : tyOf (.int n) = some (.type "int") := id rfl
theorem ty_str : tyOf (.str s) = some (.type "str") := id rfl
theorem ty_tup : tyOf (.tup ds) = some (.type "tuple") := id rfl
theorem at_tst : tstE a ρ = (a ρ).bo truD := by unfold tstE Res.bo; cases a ρ <;> rfl
theorem at_tst0 : tst0 a ρ = (a ρ).bo blO := by unfold tst0 Res.bo; cases a ρ <;> rfl
def nB (r : Res Bool) : Res Bool := r.bind fun b => .ok (!b)
theorem nB_ok : nB (.ok p) = .ok (!p) := id rfl
theorem nB_err : nB (.err x) = .err x := id rfl
theorem at_notB : notB t ρ = nB (t ρ) := id rfl
theorem at_andB : andB t u ρ = (t ρ).bb ρ u (fun _ => .ok false) := by unfold andB Res.bb; cases t ρ <;> rfl
theorem at_orB : orB t u ρ = (t ρ).bb ρ (fun _ => .ok true) u := by unfold orB Res.bb; cases t ρ <;> rfl
theorem at_andE : andE a b ρ = ((a ρ).bo blO).bd ρ b (fun _ => .ok (.bl false)) := by
    unfold andE Res.bo
    cases a ρ with
    | ok d => simp only [bind_ok]; cases blO d <;> rfl
    | _ => rfl
theorem at_orE : orE a b ρ = ((a ρ).bo blO).bd ρ (fun _ => .ok (.bl true)) b := by
    unfold orE Res.bo
    cases a ρ with
    | ok d => simp only [bind_ok]; cases blO d <;> rfl
    | _ => rfl
def nE (r : Res Bool) : Res D := r.bind fun b => .ok (.bl (!b))
theorem nE_ok : nE (.ok p) = .ok (.bl (!p)) := id rfl
theorem nE_err : nE (.err x) = .err x := id rfl
theorem at_notE : notE a ρ = nE ((a ρ).bo truD) := by
    unfold notE Res.bo nE
    cases a ρ with
    | ok d => rfl
    | _ => rfl
theorem at_ifE : ifE t a b ρ = (t ρ).bd ρ a b := by unfold ifE Res.bd; cases t ρ <;> rfl
theorem at_nilA : nilA ρ = .ok [] := id rfl
theorem at_consA : consA a fs ρ = (stE a ρ).bc (fs ρ) := by unfold consA Res.bc; cases stE a ρ <;> cases fs ρ <;> rfl
def tupL (ds : List D) : Res D := if ds.length ≤ LINE then .ok (.tup ds) else .st
def lstL (ds : List D) : Res D := if ds.length ≤ LINE then .ok (.new ds) else .st
theorem tupL_ok (h : ds.length ≤ 16777216) : tupL ds = .ok (.tup ds) := if_pos h
theorem lstL_ok (h : ds.length ≤ 16777216) : lstL ds = .ok (.new ds) := if_pos h
theorem at_tup : tupE fs ρ = (fs ρ).bt tupL := by unfold tupE Res.bt tupL; cases fs ρ <;> rfl
theorem at_lst : lstE fs ρ = (fs ρ).bt lstL := by unfold lstE Res.bt lstL; cases fs ρ <;> rfl
def callL (n : Nat) (F : List D → Res D) (ds : List D) : Res D := if ds.length = n then F ds else .st
theorem callL_0  : callL 0 F [] = F [] := id rfl
theorem callL_1 {y0 : D} : callL 1 F [y0] = F [y0] := id rfl
theorem callL_2 {y0 y1 : D} : callL 2 F [y0, y1] = F [y0, y1] := id rfl
theorem callL_3 {y0 y1 y2 : D} : callL 3 F [y0, y1, y2] = F [y0, y1, y2] := id rfl
theorem callL_4 {y0 y1 y2 y3 : D} : callL 4 F [y0, y1, y2, y3] = F [y0, y1, y2, y3] := id rfl
theorem callL_5 {y0 y1 y2 y3 y4 : D} : callL 5 F [y0, y1, y2, y3, y4] = F [y0, y1, y2, y3, y4] := id rfl
theorem at_call : callE i F fs ρ = (fs ρ).bt (callL i F) := by unfold callE Res.bt callL; cases fs ρ <;> rfl
def chK (r1 r2 : Res D) (k2 : D → D → Option D) : Res Bool := (r1.b2 r2 k2).bo blO
def ch2 (r : Res D) (c : Ev) (k3 : D → D → Option D) : Ev := fun ρ => r.b2 (c ρ) k3
def ch0 (r1 r2 : Res D) (kb : Res Bool) (c : Ev) (k3 : D → D → Option D) (ρ : Rho) : Res D := kb.bd ρ (ch2 r2 c k3) (fun _ => .ok (.bl false))
theorem at_chK : chK r r2 k2 = (r.b2 r2 k2).bo blO := id rfl
theorem at_ch2 : ch2 r c k3 ρ = r.b2 (c ρ) k3 := id rfl
theorem at_ch0 : ch0 r r2 (.ok p) c k3 ρ = if p = true then ch2 r2 c k3 ρ else .ok (.bl false) := id rfl
def chR (r1 r2 : Res D) (c : Ev) (k2 k3 : D → D → Option D) (ρ : Rho) : Res D := match r1, r2 with
  | .ok y0, .ok y1 => ((ofO (k2 y0 y1)).bo blO).bd ρ (ch2 (.ok y1) c k3) (fun _ => .ok (.bl false))
  | .ok _, .err x => .err x
  | .ok _, .st => .st
  | .err x, _ => .err x
  | .st, _ => .st
theorem chR_ok : chR (.ok d) (.ok e) c k2 k3 ρ = ((ofO (k2 d e)).bo blO).bd ρ (ch2 (.ok e) c k3) (fun _ => .ok (.bl false)) := id rfl
theorem at_ch : chE k2 k3 a b c ρ = chR (a ρ) (b ρ) c k2 k3 ρ := by
  unfold chE chR
  cases a ρ with
  | ok y0 =>
    cases b ρ with
    | ok y1 =>
      simp only [bind_ok]; unfold ch2 Res.b2
      cases k2 y0 y1 with | none => rfl | some d => cases h : blO d with | none => simp only [Option.bind_some, h]; simp only [ofO_none, bind_st, ofO_some, Res.bo, h, Res.bd] | some p => simp only [Option.bind_some, h, ofO_some, bind_ok, Res.bo, Res.bd]; cases p <;> (try rfl); cases c ρ <;> rfl
    | err x => rfl
    | st => rfl
  | err x => rfl
  | st => rfl
def isi1 (kt : Value → Option Bool) (d : D) : Option D := ((tyOf d).bind kt).map .bl
theorem at_isi : isiE kt a ρ = (a ρ).b1 (isi1 kt) := by unfold isiE; exact at_e1
def obl (o : Option Bool) : Option D := o.map .bl
theorem obl_some : obl (some p) = some (.bl p) := id rfl
theorem isi1_at : isi1 kt d = obl ((tyOf d).bind kt) := id rfl
def kit2 (o : Option Bool) (T2 : String) (v : Value) : Option Bool := match o with | some true => some true | some false => kitT T2 v | none => none
theorem kit2_t : kit2 (some true) T2 v = some true := id rfl
theorem kit2_f : kit2 (some false) T2 v = kitT T2 v := id rfl
theorem at_kitT2 : kitT2 T1 T2 v = kit2 (kitT T1 v) T2 v := by unfold kitT2 kit2; cases kitT T1 v with | none => rfl | some b => cases b <;> rfl
def slc (r : Res D) (lo hi : Res (Option Int)) : Res D := r.bind fun x => lo.bind fun l => hi.bind fun h => ofO (sliceD x l h)
theorem slc_ok : slc (.ok d) (.ok l2) (.ok h2) = ofO (sliceD d l2 h2) := id rfl
theorem at_slice : sliceE a l3 h3 ρ = slc (a ρ) (l3 ρ) (h3 ρ) := id rfl
theorem at_noO : noO ρ = .ok none := id rfl
def soO (r : Res D) : Res (Option Int) := r.bind fun d => match d with | .int i => .ok (some i) | _ => .st
theorem soO_int : soO (.ok (.int n)) = .ok (some n) := id rfl
theorem at_someO : someO a ρ = soO (a ρ) := id rfl
def bor0 (s : Option Slot) (i : Nat) (a : Ev) (ρ : Rho) : Res D := match s with | some (.own ds) => (a (ρ.set i (.v (.lst ds)))).bind fun d => if d.flat then .ok d else .st | _ => a ρ
def sq1 (d : D) : Res (List D) := ofO (seqO d)
theorem sq1_tup : sq1 (.tup ds) = .ok ds := id rfl
theorem sq1_lst : sq1 (.lst ds) = .ok ds := id rfl
def Res.bl1 (r : Res D) (g : D → Res (List D)) : Res (List D) := match r with | .ok x => g x | .err x => .err x | .st => .st
variable {gl : D → Res (List D)}
theorem bl1_ok : (Res.ok d).bl1 gl = gl d := id rfl
theorem bl1_err : (Res.err x : Res D).bl1 gl = .err x := id rfl
theorem bl1_st : (Res.st : Res D).bl1 gl = .st := id rfl
theorem at_seqI : seqI a ρ = (stE a ρ).bl1 sq1 := by unfold seqI Res.bl1 sq1; cases stE a ρ <;> rfl
def rg1 (d : D) : Res (List D) := match d with | .int j => if -(2 ^ 62) ≤ j ∧ j < 2 ^ 62 then .ok (rngI 0 j.toNat) else .st | _ => .st
theorem rg1_int (h1 : -4611686018427387904 ≤ n) (h2 : n < 4611686018427387904) : rg1 (.int n) = .ok (rngI 0 n.toNat) := if_pos ⟨by omega, by omega⟩
theorem at_rng1 : rng1I a ρ = (a ρ).bl1 rg1 := by unfold rng1I Res.bl1 rg1; cases a ρ <;> rfl
def rg2 (d e : D) : Res (List D) := match d, e with | .int i, .int j => if (-(2 ^ 62) ≤ i ∧ i < 2 ^ 62) ∧ (-(2 ^ 62) ≤ j ∧ j < 2 ^ 62) then .ok (rngI i (j - i).toNat) else .st | _, _ => .st
theorem rg2_int (h1 : -4611686018427387904 ≤ m) (h2 : m < 4611686018427387904) (h3 : -4611686018427387904 ≤ n) (h4 : n < 4611686018427387904) : rg2 (.int m) (.int n) = .ok (rngI m (n - m).toNat) := if_pos ⟨⟨by omega, by omega⟩, by omega, by omega⟩
def rg0 (r r2 : Res D) : Res (List D) := r.bind fun d => r2.bind fun e => rg2 d e
theorem rg0_ok : rg0 (.ok d) (.ok e) = rg2 d e := id rfl
theorem at_rng2 : rng2I a b ρ = rg0 (a ρ) (b ρ) := id rfl
def lc0 (G : D → Rho → Option Rho) (t : Eb) (a : Ev) (ρ : Rho) (ds : List D) : Res D := if ds.length ≤ LINE then (lcO G t a ρ ds).bt fun xs => .ok (.new xs) else .st
theorem lc0_ok (h : ds.length ≤ 16777216) : lc0 G t a ρ ds = (lcO G t a ρ ds).bt fun xs => .ok (.new xs) := if_pos h
theorem at_lc : lcE fs vs G t a ρ = (fs ρ).bt (lc0 G t a (wipeR ρ vs)) := by unfold lcE Res.bt lc0; cases fs ρ <;> (try rfl); rename_i ds; simp only [bind_ok]; split <;> (try rfl); cases lcO G t a (wipeR ρ vs) ds <;> rfl
theorem wipe_nil : wipeR ρ [] = ρ := id rfl
theorem wipe_cons : wipeR ρ (i :: vs) = (wipeR ρ vs).set i .un := id rfl
theorem at_yes : yesB ρ = .ok true := id rfl
end
/-- a comprehension without a test, each turn known -/
theorem lc_map {G : D → Rho → Option Rho} {t : Eb} {a : Ev} {ρ : Rho} {F : D → D} : ∀ {ds : List D}, (∀ d ∈ ds, ∃ ρ1, G d ρ = some ρ1 ∧ t ρ1 = .ok true ∧ stE a ρ1 = .ok (F d)) → lcO G t a ρ ds = .ok (ds.map F)
  | [], _ => rfl
  | d :: ds, h => by
    obtain ⟨ρ1, h1, h2, h3⟩ := h d (List.mem_cons_self ..)
    rw [lcO, h1]
    simp only [h2, h3, sure, bind_ok, if_true]
    rw [lc_map fun d m => h d (List.mem_cons_of_mem _ m)]
    rfl
theorem lc_filter {G : D → Rho → Option Rho} {t : Eb} {a : Ev} {ρ : Rho} {F : D → D} {p : D → Bool} : ∀ {ds : List D}, (∀ d ∈ ds, ∃ ρ1, G d ρ = some ρ1 ∧ t ρ1 = .ok (p d) ∧ (p d = true → stE a ρ1 = .ok (F d))) → lcO G t a ρ ds = .ok ((ds.filter p).map F)
  | [], _ => rfl
  | d :: ds, h => by
    obtain ⟨ρ1, h1, h2, h3⟩ := h d (List.mem_cons_self ..)
    have ih := lc_filter fun d m => h d (List.mem_cons_of_mem _ m)
    rw [lcO, h1]
    simp only [h2, sure, bind_ok]
    cases hp : p d with
    | true => simp only [h3 hp, if_true, bind_ok]; rw [ih, List.filter_cons_of_pos hp]; rfl
    | false => rw [if_neg (by decide), ih, List.filter_cons_of_neg (by simp [hp])]
end DL

end
namespace DL
open PySem L2
local macro_rules
  | `(tactic| simp_arith [$xs,*]) => `(tactic| simp (config := {failIfUnchanged := false}) only [o0, o1, o2, o3, o4, o5, o6, o7, o8, o9, o10, o11, o12, o13, o14, o15, o16, o17, o18, o19, o20, o21, o22, o23, o24, o25, o26, o27, o28, o29, o30, o31, o32, o33, o34, o35, o36, o37, o38, o39, o40, o41, o42, o43, o44, o45, o46, o47, o48, at_seq, at_skip, at_asg, own_new, at_own, at_drop, at_ret, at_retN, rO_own, at_retOwn, at_if, at_brk, at_cnt, at_raise, ooS_some, unp1_tup, at_unp, setAll_nil, setAll_cons, par1_ok, par1_err, at_par2, frz1_own, frz1_v, at_frz, app0_own, at_app, app1_ok, pop0_own, at_pop, clr0_own, at_clr, aug0_int, aug1_int, at_aug, at_for, for_nil, gnx_some, for_cons, at_gN, at_gU,  at_e1, at_e2, at_st, vO_v, vO_own, at_var, at_c, settle_non, settle_bl, settle_int, settle_str, settle_lst, settle_tup, settle_frz, settle_new, add_int, add_str, add_tup, add_lst_lst, add_lst_new, add_lst_bor, add_new_lst, add_new_new, add_new_bor, add_bor_lst, add_bor_new, add_bor_bor, sub_int, mul_r, mul_l, fdiv_p, mod_p, pow_p, neg_int, lt_int, le_int, gt_int, ge_int, is_bl, ni_bl, is_n_non, ni_n_non, is_n_bl, ni_n_bl, is_n_int, ni_n_int, is_n_str, ni_n_str, is_n_lst, ni_n_lst, is_n_tup, ni_n_tup, is_n_new, ni_n_new, is_n_bor, ni_n_bor, items_lst, len_lst, list_lst, tuple_lst, ix_lst, tru_lst, rev_lst, slice_lst, ty_lst, sum_lst, all_lst, any_lst, items_new, len_new, list_new, tuple_new, ix_new, tru_new, rev_new, slice_new, ty_new, sum_new, all_new, any_new, items_bor, len_bor, list_bor, tuple_bor, ix_bor, tru_bor, rev_bor, slice_bor, ty_bor, sum_bor, all_bor, any_bor, len_tup, len_frz, len_str, list_tup, list_frz, tuple_tup, ix_tup, tru_tup, tru_bl, tru_int, tru_non, slice_tup, slice_frz, revT_tup, int_int, int_bl, abs_int, max_int, min_int, blO_bl, ty_non, ty_bl, ty_int, ty_str, ty_tup, at_tst, at_tst0, nB_ok, nB_err, at_notB, at_andB, at_orB, at_andE, at_orE, nE_ok, nE_err, at_notE, at_ifE, at_nilA, at_consA, tupL_ok, lstL_ok, at_tup, at_lst, callL_0, callL_1, callL_2, callL_3, callL_4, callL_5, at_call, at_chK, at_ch2, at_ch0, chR_ok, at_ch, at_isi, obl_some, isi1_at, kit2_t, kit2_f, at_kitT2, slc_ok, at_slice, at_noO, soO_int, at_someO, sq1_tup, sq1_lst, bl1_ok, bl1_err, bl1_st, at_seqI, rg1_int, at_rng1, rg2_int, rg0_ok, at_rng2, lc0_ok, at_lc, wipe_nil, wipe_cons, at_yes, kitT_int_int, kitT_int_bool, kitT_int_str, kitT_int_list, kitT_int_tuple, kitT_int_none, kitT_bool_int, kitT_bool_bool, kitT_bool_str, kitT_bool_list, kitT_bool_tuple, kitT_bool_none, kitT_tuple_int, kitT_tuple_bool, kitT_tuple_str, kitT_tuple_list, kitT_tuple_tuple, kitT_tuple_none, kitT_list_int, kitT_list_bool, kitT_list_str, kitT_list_list, kitT_list_tuple, kitT_list_none, kitT_str_int, kitT_str_bool, kitT_str_str, kitT_str_list, kitT_str_tuple, kitT_str_none, eqD_int, neD_int, eqD_bl, neD_bl, List.map_cons, List.map_nil, List.replicate, List.cons_append, List.nil_append, List.set_cons_zero, List.set_cons_succ, List.getElem?_cons_zero, List.getElem?_cons_succ, List.length_cons, List.length_nil, List.length_map, List.length_range, bind_ok, bind_err, bind_st, ofO_some, ofO_none, then_ok, then_err, then_st, Option.bind_some, Option.bind_none, Option.map_some, Option.map_none, Nat.zero_add, Nat.reduceAdd, Nat.reduceLeDiff, Nat.reduceEqDiff, ite_true, ite_false, if_true, if_false, reduceIte, Bool.not_true, Bool.not_false, Bool.false_eq_true, decide_eq_true_eq, Bool.not_eq_true, Int.reduceLT, Int.reduceLE, Int.reduceNeg, Int.reduceToNat, Int.reducePow, Int.reduceEq, Int.reduceAdd, Int.reduceSub, Int.reduceMul, Nat.reduceLT, decide_true, decide_false, $xs,*])
local macro_rules
  | `(tactic| simp_arith) => `(tactic| simp (config := {failIfUnchanged := false}) only [o0, o1, o2, o3, o4, o5, o6, o7, o8, o9, o10, o11, o12, o13, o14, o15, o16, o17, o18, o19, o20, o21, o22, o23, o24, o25, o26, o27, o28, o29, o30, o31, o32, o33, o34, o35, o36, o37, o38, o39, o40, o41, o42, o43, o44, o45, o46, o47, o48, at_seq, at_skip, at_asg, own_new, at_own, at_drop, at_ret, at_retN, rO_own, at_retOwn, at_if, at_brk, at_cnt, at_raise, ooS_some, unp1_tup, at_unp, setAll_nil, setAll_cons, par1_ok, par1_err, at_par2, frz1_own, frz1_v, at_frz, app0_own, at_app, app1_ok, pop0_own, at_pop, clr0_own, at_clr, aug0_int, aug1_int, at_aug, at_for, for_nil, gnx_some, for_cons, at_gN, at_gU,  at_e1, at_e2, at_st, vO_v, vO_own, at_var, at_c, settle_non, settle_bl, settle_int, settle_str, settle_lst, settle_tup, settle_frz, settle_new, add_int, add_str, add_tup, add_lst_lst, add_lst_new, add_lst_bor, add_new_lst, add_new_new, add_new_bor, add_bor_lst, add_bor_new, add_bor_bor, sub_int, mul_r, mul_l, fdiv_p, mod_p, pow_p, neg_int, lt_int, le_int, gt_int, ge_int, is_bl, ni_bl, is_n_non, ni_n_non, is_n_bl, ni_n_bl, is_n_int, ni_n_int, is_n_str, ni_n_str, is_n_lst, ni_n_lst, is_n_tup, ni_n_tup, is_n_new, ni_n_new, is_n_bor, ni_n_bor, items_lst, len_lst, list_lst, tuple_lst, ix_lst, tru_lst, rev_lst, slice_lst, ty_lst, sum_lst, all_lst, any_lst, items_new, len_new, list_new, tuple_new, ix_new, tru_new, rev_new, slice_new, ty_new, sum_new, all_new, any_new, items_bor, len_bor, list_bor, tuple_bor, ix_bor, tru_bor, rev_bor, slice_bor, ty_bor, sum_bor, all_bor, any_bor, len_tup, len_frz, len_str, list_tup, list_frz, tuple_tup, ix_tup, tru_tup, tru_bl, tru_int, tru_non, slice_tup, slice_frz, revT_tup, int_int, int_bl, abs_int, max_int, min_int, blO_bl, ty_non, ty_bl, ty_int, ty_str, ty_tup, at_tst, at_tst0, nB_ok, nB_err, at_notB, at_andB, at_orB, at_andE, at_orE, nE_ok, nE_err, at_notE, at_ifE, at_nilA, at_consA, tupL_ok, lstL_ok, at_tup, at_lst, callL_0, callL_1, callL_2, callL_3, callL_4, callL_5, at_call, at_chK, at_ch2, at_ch0, chR_ok, at_ch, at_isi, obl_some, isi1_at, kit2_t, kit2_f, at_kitT2, slc_ok, at_slice, at_noO, soO_int, at_someO, sq1_tup, sq1_lst, bl1_ok, bl1_err, bl1_st, at_seqI, rg1_int, at_rng1, rg2_int, rg0_ok, at_rng2, lc0_ok, at_lc, wipe_nil, wipe_cons, at_yes, kitT_int_int, kitT_int_bool, kitT_int_str, kitT_int_list, kitT_int_tuple, kitT_int_none, kitT_bool_int, kitT_bool_bool, kitT_bool_str, kitT_bool_list, kitT_bool_tuple, kitT_bool_none, kitT_tuple_int, kitT_tuple_bool, kitT_tuple_str, kitT_tuple_list, kitT_tuple_tuple, kitT_tuple_none, kitT_list_int, kitT_list_bool, kitT_list_str, kitT_list_list, kitT_list_tuple, kitT_list_none, kitT_str_int, kitT_str_bool, kitT_str_str, kitT_str_list, kitT_str_tuple, kitT_str_none, eqD_int, neD_int, eqD_bl, neD_bl, List.map_cons, List.map_nil, List.replicate, List.cons_append, List.nil_append, List.set_cons_zero, List.set_cons_succ, List.getElem?_cons_zero, List.getElem?_cons_succ, List.length_cons, List.length_nil, List.length_map, List.length_range, bind_ok, bind_err, bind_st, ofO_some, ofO_none, then_ok, then_err, then_st, Option.bind_some, Option.bind_none, Option.map_some, Option.map_none, Nat.zero_add, Nat.reduceAdd, Nat.reduceLeDiff, Nat.reduceEqDiff, ite_true, ite_false, if_true, if_false, reduceIte, Bool.not_true, Bool.not_false, Bool.false_eq_true, decide_eq_true_eq, Bool.not_eq_true, Int.reduceLT, Int.reduceLE, Int.reduceNeg, Int.reduceToNat, Int.reducePow, Int.reduceEq, Int.reduceAdd, Int.reduceSub, Int.reduceMul, Nat.reduceLT, decide_true, decide_false])

theorem rngI_il (lo : Int) (n : Nat) : rngI lo n = il ((List.range n).map fun i : Nat => lo + (i : Int)) := by
  unfold rngI il
  rw [List.map_map]
  rfl
theorem app_il (L : List Int) (x : Int) : il L ++ [D.int x] = il (L ++ [x]) := by simp

/-! the laws' own numbers -/
def lrS : Es := (seqS (asgS 4 (e2 modD (e1 intD (e2 addD (e2 mulD (varE 4) (cE (.int 16807))) (e2 mulD (cE (.int 271)) (e2 addD (varE 5) (cE (.int 3)))))) (cE (.int 2147483629))))
  (ifS (tst0 (e2 geD (e1 absD (varE 0)) (e2 powD (cE (.int 10)) (cE (.int 18)))))
  (seqS (appS 2 (e2 modD (e1 intD (varE 3)) (cE (.int 1009))))
  (asgS 3 (e2 fdivD (varE 3) (cE (.int 1009)))))
  (appS 2 (e2 modD (e1 intD (e2 fdivD (varE 4) (cE (.int 7)))) (cE (.int 1009))))))
def lrB : Es := (seqS (ownS 2 (lstE nilA))
  (seqS (asgS 3 (e1 absD (varE 0)))
  (seqS (asgS 4 (e2 modD (e1 intD (e2 addD (e2 mulD (varE 3) (cE (.int 48271))) (cE (.int 69621)))) (cE (.int 2147483647))))
  (seqS (forS (rng1I (varE 1)) (gN 5) lrS)
  (retOwn 2)))))
theorem lr_loop (c m : D) (C : Int) (hc : c = .int C) : ∀ (ds row : List Int) (rest mixed : Int) (sl : Slot), row.length + ds.length < LINE →
    ∃ (row' : List Int) (rest' mixed' : Int) (sl' : Slot), forO (gN 5) lrS (il ds) [.v c, .v m, .own (il row), .v (.int rest), .v (.int mixed), sl] = .nx [.v c, .v m, .own (il row'), .v (.int rest'), .v (.int mixed'), sl'] ∧
      row'.length = row.length + ds.length ∧ ∀ x ∈ row', x ∈ row ∨ (0 ≤ x ∧ x < 1009)
  | [], row, rest, mixed, sl, _ => ⟨row, rest, mixed, sl, by simp [forO], by simp, fun x h => .inl h⟩
  | d :: ds, row, rest, mixed, sl, hl => by
    subst hc
    rw [List.length_cons] at hl
    have e1 : (il (d :: ds)) = D.int d :: il ds := rfl
    rw [e1, forO]
    have hl2 : row.length < 16777216 := by unfold LINE at hl; omega
    by_cases h : (1000000000000000000 : Int) ≤ (if C < 0 then -C else C)
    · obtain ⟨row', rest', mixed', sl', h1, h2, h3⟩ := lr_loop (.int C) m C rfl ds (row ++ [rest % 1009]) (rest / 1009) ((mixed * 16807 + 271 * (d + 3)) % 2147483629) (.v (.int d)) (by rw [List.length_append, List.length_singleton]; omega)
      refine ⟨row', rest', mixed', sl', ?_, ?_, ?_⟩
      · rw [← h1, ← app_il]
        simp_arith [lrS, h, hl2, app1_ok]
      · rw [h2, List.length_append, List.length_singleton]; simp only [List.length_cons]; omega
      · intro x hx
        rcases h3 x hx with hx | hx
        · rw [List.mem_append, List.mem_singleton] at hx
          rcases hx with hx | rfl
          · exact .inl hx
          · exact .inr ⟨Int.emod_nonneg _ (by decide), Int.emod_lt_of_pos _ (by decide)⟩
        · exact .inr hx
    · obtain ⟨row', rest', mixed', sl', h1, h2, h3⟩ := lr_loop (.int C) m C rfl ds (row ++ [((mixed * 16807 + 271 * (d + 3)) % 2147483629) / 7 % 1009]) rest ((mixed * 16807 + 271 * (d + 3)) % 2147483629) (.v (.int d)) (by rw [List.length_append, List.length_singleton]; omega)
      refine ⟨row', rest', mixed', sl', ?_, ?_, ?_⟩
      · rw [← h1, ← app_il]
        simp_arith [lrS, h, hl2, app1_ok]
      · rw [h2, List.length_append, List.length_singleton]; simp only [List.length_cons]; omega
      · intro x hx
        rcases h3 x hx with hx | hx
        · rw [List.mem_append, List.mem_singleton] at hx
          rcases hx with hx | rfl
          · exact .inl hx
          · exact .inr ⟨Int.emod_nonneg _ (by decide), Int.emod_lt_of_pos _ (by decide)⟩
        · exact .inr hx
theorem lr_ok (c m : Int) (h0 : 0 ≤ m) (hm : m ≤ 1000000) : ∃ L : List Int, runF 4 lrB [.int c, .int m] = .ok (.lst (il L)) ∧ L.length = m.toNat ∧ ∀ x ∈ L, 0 ≤ x ∧ x < 1009 := by
  obtain ⟨row', rest', mixed', sl', h1, h2, h3⟩ := lr_loop (.int c) (.int m) c rfl ((List.range m.toNat).map fun i : Nat => 0 + (i : Int)) [] (if c < 0 then -c else c) (((if c < 0 then -c else c) * 48271 + 69621) % 2147483647) .un (by simp [LINE]; omega)
  refine ⟨row', ?_, by rw [h2]; simp, fun x hx => (h3 x hx).elim (fun h => absurd h (List.not_mem_nil)) id⟩
  have hr : -4611686018427387904 ≤ m ∧ m < 4611686018427387904 := by omega
  have e : il ([] : List Int) = [] := rfl
  rw [e] at h1
  simp_arith [lrB, at_run, hr.1, hr.2, Nat.zero_le, rngI_il, h1]

/-! while -/
def whK (c : Eb) (b : Es) (n : Nat) (o : Out) : Out := match o with
  | .nx ρ2 => whO c b n ρ2
  | .ct ρ2 => whO c b n ρ2
  | .bk ρ2 => .nx ρ2
  | o => o
def whT (c : Eb) (b : Es) (n : Nat) : Es := fun ρ => whK c b n (b ρ)
theorem at_whT {c : Eb} {b : Es} {n : Nat} {ρ : Rho} : whT c b n ρ = whK c b n (b ρ) := id rfl
theorem whK_nx {c : Eb} {b : Es} {n : Nat} {ρ : Rho} : whK c b n (.nx ρ) = whO c b n ρ := id rfl
theorem whK_ct {c : Eb} {b : Es} {n : Nat} {ρ : Rho} : whK c b n (.ct ρ) = whO c b n ρ := id rfl
theorem whK_bk {c : Eb} {b : Es} {n : Nat} {ρ : Rho} : whK c b n (.bk ρ) = .nx ρ := id rfl
theorem whK_rt {c : Eb} {b : Es} {n : Nat} {d : D} : whK c b n (.rt d) = .rt d := id rfl
theorem whK_er {c : Eb} {b : Es} {n : Nat} {x : Ex} {ρ : Rho} : whK c b n (.er x ρ) = .er x ρ := id rfl
theorem wh_cons {c : Eb} {b : Es} {n : Nat} {ρ : Rho} : whO c b (n + 1) ρ = (c ρ).tsts ρ (whT c b n) skipS := by
  rw [whO]
  unfold Res.tsts whT whK
  cases h : c ρ with
  | ok k =>
    cases k with
    | true => simp only [if_true]; all_goals (cases h2 : b ρ <;> simp only [h2])
    | false => rfl
  | err x => rfl
  | st => rfl
theorem at_wh {n : Rho → Nat} {c : Eb} {b : Es} {ρ : Rho} : whS n c b ρ = whO c b (n ρ) ρ := id rfl

def lnIn : Es := (forS (seqI (callE 2 (runF 4 lrB) (consA (varE 5) (consA (varE 3) nilA)))) (gN 6)
  (appS 4 (varE 6)))
def lnWc : Eb := (tst0 (e2 ltD (e1 lenD (varE 4)) (varE 1)))
def lnWb : Es := (appS 4 (cE (.int 0)))
def lnB (w : Rho → Nat) : Es := (seqS (asgS 2 (sliceE (varE 0) noO (someO (cE (.int 63)))))
  (seqS (asgS 3 (e2 addD (cE (.int 1)) (e2 fdivD (varE 1) (e2 maxD (cE (.int 1)) (e1 lenD (varE 2))))))
  (seqS (ownS 4 (lstE nilA))
  (seqS (forS (seqI (varE 2)) (gN 5) lnIn)
  (seqS (whS w lnWc lnWb)
  (retS (sliceE (varE 4) noO (someO (varE 1)))))))))
theorem ln_app (a0 a1 a2 a3 a5 : Slot) : ∀ (ds acc : List Int) (s6 : Slot), acc.length + ds.length < 16777216 →
    ∃ s6', forO (gN 6) (appS 4 (varE 6)) (il ds) [a0, a1, a2, a3, .own (il acc), a5, s6] = .nx [a0, a1, a2, a3, .own (il (acc ++ ds)), a5, s6']
  | [], acc, s6, _ => ⟨s6, by simp [forO]⟩
  | d :: ds, acc, s6, hl => by
    rw [List.length_cons] at hl
    obtain ⟨s6', h⟩ := ln_app a0 a1 a2 a3 a5 ds (acc ++ [d]) (.v (.int d)) (by rw [List.length_append, List.length_singleton]; omega)
    refine ⟨s6', ?_⟩
    have e1 : il (d :: ds) = D.int d :: il ds := rfl
    have e2 : acc ++ d :: ds = (acc ++ [d]) ++ ds := by simp
    have hl2 : acc.length < 16777216 := by omega
    rw [e2, ← h, ← app_il, e1]
    simp_arith [app1_ok, hl2]
theorem ln_rows (a0 a1 a2 : Slot) (each : Int) (he : 0 ≤ each) (he2 : each ≤ 1000000) : ∀ (ds acc : List Int) (s5 s6 : Slot), (acc.length : Int) + each * ds.length < 16777216 → (∀ x ∈ acc, 0 ≤ x ∧ x < 1009) →
    ∃ (s5' s6' : Slot) (acc' : List Int), forO (gN 5) lnIn (il ds) [a0, a1, a2, .v (.int each), .own (il acc), s5, s6] = .nx [a0, a1, a2, .v (.int each), .own (il acc'), s5', s6'] ∧ (acc'.length : Int) = acc.length + each * ds.length ∧ ∀ x ∈ acc', 0 ≤ x ∧ x < 1009
  | [], acc, s5, s6, _, ha => ⟨s5, s6, acc, by simp [forO], by simp, ha⟩
  | d :: ds, acc, s5, s6, hl, ha => by
    obtain ⟨L, hL, hlen, hin⟩ := lr_ok d each he he2
    have e3 : each * ((d :: ds).length : Int) = each * ds.length + each := by rw [List.length_cons]; push_cast; rw [Int.mul_add, Int.mul_one]
    rw [e3] at hl
    have e4 : (L.length : Int) = each := by omega
    have e5 : 0 ≤ each * (ds.length : Int) := Int.mul_nonneg he (by omega)
    have hl3 : acc.length + L.length < 16777216 := by omega
    obtain ⟨s6', h⟩ := ln_app a0 a1 a2 (.v (.int each)) (.v (.int d)) L acc s6 hl3
    obtain ⟨s5'', s6'', acc', g1, g2, g3⟩ := ln_rows a0 a1 a2 each he he2 ds (acc ++ L) (.v (.int d)) s6' (by rw [List.length_append]; push_cast; omega) (fun x hx => (List.mem_append.mp hx).elim (ha x) (hin x))
    refine ⟨s5'', s6'', acc', ?_, ?_, g3⟩
    · have e1 : il (d :: ds) = D.int d :: il ds := rfl
      rw [← g1, e1]
      simp_arith [lnIn, hL, h]
    · rw [g2, List.length_append]; push_cast; omega
theorem ln_wh (a0 a2 a3 a5 a6 : Slot) (many : Int) (hm : many ≤ 1000000) : ∀ (n : Nat) (acc : List Int), many - acc.length ≤ n → (∀ x ∈ acc, 0 ≤ x ∧ x < 1009) →
    ∃ acc' : List Int, whO lnWc lnWb (n + 1) [a0, .v (.int many), a2, a3, .own (il acc), a5, a6] = .nx [a0, .v (.int many), a2, a3, .own (il acc'), a5, a6] ∧ many ≤ acc'.length ∧ ∀ x ∈ acc', 0 ≤ x ∧ x < 1009
  | 0, acc, hn, ha => by
    have h : ¬ (acc.length : Int) < many := by omega
    refine ⟨acc, ?_, by omega, ha⟩
    rw [wh_cons]
    simp_arith [lnWc, lnWb, h]
  | n + 1, acc, hn, ha => by
    by_cases h : (acc.length : Int) < many
    · obtain ⟨acc', h1, h2, h3⟩ := ln_wh a0 a2 a3 a5 a6 many hm n (acc ++ [0]) (by rw [List.length_append, List.length_singleton]; push_cast; omega) (fun x hx => by
        rw [List.mem_append, List.mem_singleton] at hx
        rcases hx with hx | rfl
        · exact ha x hx
        · decide)
      refine ⟨acc', ?_, h2, h3⟩
      have hl2 : acc.length < 16777216 := by omega
      rw [← h1, wh_cons, ← app_il]
      simp_arith [lnWc, lnWb, h, at_whT, whK_nx, app1_ok, hl2]
    · refine ⟨acc, ?_, by omega, ha⟩
      rw [wh_cons]
      simp_arith [lnWc, lnWb, h]

theorem cut_63 {α : Type} {ns : List α} (h : ns.length ≤ 63) : cutL ns none (some 63) = ns := by
  unfold cutL
  rw [HT.sIx_none, show HT.sIx ns.length ns.length (some (63 : Int)) = min 63 ns.length from HT.sIx_nat _ _ 63]
  rw [Nat.min_eq_right h]
  simp
theorem cut_to {α : Type} {L : List α} {n : Int} (h0 : 0 ≤ n) (h : n ≤ L.length) : cutL L none (some n) = L.take n.toNat := by
  unfold cutL
  rw [HT.sIx_none]
  obtain ⟨k, rfl⟩ := Int.eq_ofNat_of_zero_le h0
  rw [HT.sIx_nat, Nat.min_eq_left (by omega)]
  simp
/-- the law's own numbers: as many as asked for, each from 0 to 1008 -/
theorem ln_ok {w : Rho → Nat} (hw : ∀ ρ, w ρ = 5000) (ns : List Int) (hn : ns.length ≤ 63) (many : Int) (h0 : 0 ≤ many) (hm : many ≤ 4000) :
    ∃ L : List Int, runF 5 (lnB w) [.frz ns, .int many] = .ok (.lst (il L)) ∧ (L.length : Int) = many ∧ ∀ x ∈ L, 0 ≤ x ∧ x < 1009 := by
  have hc := cut_63 hn
  generalize hM : (if (ns.length : Int) > 1 then (ns.length : Int) else 1) = M
  have hM1 : 0 < M := by rw [← hM]; split <;> omega
  have hM2 : M < 18446744073709551616 := by rw [← hM]; split <;> omega
  have hM3 : (ns.length : Int) ≤ M := by rw [← hM]; split <;> omega
  have hq0 : 0 ≤ many / M := Int.ediv_nonneg h0 (by omega)
  have hq1 : many / M ≤ many := Int.ediv_le_self _ h0
  have hq2 : many / M * ns.length ≤ many := by
    have a1 : many / M * ns.length ≤ many / M * M := Int.mul_le_mul_of_nonneg_left hM3 hq0
    have a2 : many / M * M ≤ many := Int.ediv_mul_le _ (by omega)
    omega
  have hq3 : (1 + many / M) * (ns.length : Int) = ns.length + many / M * ns.length := by rw [Int.add_mul, Int.one_mul]
  obtain ⟨s5', s6', acc', g1, g2, g3⟩ := ln_rows (.v (.frz ns)) (.v (.int many)) (.v (.lst (il ns))) (1 + many / M) (by omega) (by omega) ns [] .un .un (by rw [hq3]; simp only [List.length_nil]; omega) (fun x hx => nomatch hx)
  obtain ⟨acc2, k1, k2, k3⟩ := ln_wh (.v (.frz ns)) (.v (.lst (il ns))) (.v (.int (1 + many / M))) s5' s6' many (by omega) 4999 acc' (by omega) g3
  refine ⟨acc2.take many.toNat, ?_, ?_, fun x hx => k3 x (List.mem_of_mem_take hx)⟩
  · have e1 : (1 : Int) < 18446744073709551616 := by decide
    have e2 : il ([] : List Int) = [] := rfl
    rw [e2] at g1
    have e3 : (ns.map D.int) = il ns := rfl
    have hw4 : w = fun _ => 4999 + 1 := funext hw
    have e4 := cut_to (L := il acc2) h0 (by simpa using k2)
    rw [hw4]
    simp_arith [lnB, at_run, hc, hM, hM1, hM2, Nat.zero_le, e3, g1, at_wh, k1, e4]
    rw [← List.map_take]
  · rw [List.length_take, Nat.min_eq_left (by omega)]; omega
end DL

namespace DL
open PySem L2
local macro_rules
  | `(tactic| simp_arith [$xs,*]) => `(tactic| simp (config := {failIfUnchanged := false}) only [o0, o1, o2, o3, o4, o5, o6, o7, o8, o9, o10, o11, o12, o13, o14, o15, o16, o17, o18, o19, o20, o21, o22, o23, o24, o25, o26, o27, o28, o29, o30, o31, o32, o33, o34, o35, o36, o37, o38, o39, o40, o41, o42, o43, o44, o45, o46, o47, o48, at_seq, at_skip, at_asg, own_new, at_own, at_drop, at_ret, at_retN, rO_own, at_retOwn, at_if, at_brk, at_cnt, at_raise, ooS_some, unp1_tup, at_unp, setAll_nil, setAll_cons, par1_ok, par1_err, at_par2, frz1_own, frz1_v, at_frz, app0_own, at_app, app1_ok, pop0_own, at_pop, clr0_own, at_clr, aug0_int, aug1_int, at_aug, at_for, for_nil, gnx_some, for_cons, at_gN, at_gU,  at_e1, at_e2, at_st, vO_v, vO_own, at_var, at_c, settle_non, settle_bl, settle_int, settle_str, settle_lst, settle_tup, settle_frz, settle_new, add_int, add_str, add_tup, add_lst_lst, add_lst_new, add_lst_bor, add_new_lst, add_new_new, add_new_bor, add_bor_lst, add_bor_new, add_bor_bor, sub_int, mul_r, mul_l, fdiv_p, mod_p, pow_p, neg_int, lt_int, le_int, gt_int, ge_int, is_bl, ni_bl, is_n_non, ni_n_non, is_n_bl, ni_n_bl, is_n_int, ni_n_int, is_n_str, ni_n_str, is_n_lst, ni_n_lst, is_n_tup, ni_n_tup, is_n_new, ni_n_new, is_n_bor, ni_n_bor, items_lst, len_lst, list_lst, tuple_lst, ix_lst, tru_lst, rev_lst, slice_lst, ty_lst, sum_lst, all_lst, any_lst, items_new, len_new, list_new, tuple_new, ix_new, tru_new, rev_new, slice_new, ty_new, sum_new, all_new, any_new, items_bor, len_bor, list_bor, tuple_bor, ix_bor, tru_bor, rev_bor, slice_bor, ty_bor, sum_bor, all_bor, any_bor, len_tup, len_frz, len_str, list_tup, list_frz, tuple_tup, ix_tup, tru_tup, tru_bl, tru_int, tru_non, slice_tup, slice_frz, revT_tup, int_int, int_bl, abs_int, max_int, min_int, blO_bl, ty_non, ty_bl, ty_int, ty_str, ty_tup, at_tst, at_tst0, nB_ok, nB_err, at_notB, at_andB, at_orB, at_andE, at_orE, nE_ok, nE_err, at_notE, at_ifE, at_nilA, at_consA, tupL_ok, lstL_ok, at_tup, at_lst, callL_0, callL_1, callL_2, callL_3, callL_4, callL_5, at_call, at_chK, at_ch2, at_ch0, chR_ok, at_ch, at_isi, obl_some, isi1_at, kit2_t, kit2_f, at_kitT2, slc_ok, at_slice, at_noO, soO_int, at_someO, sq1_tup, sq1_lst, bl1_ok, bl1_err, bl1_st, at_seqI, rg1_int, at_rng1, rg2_int, rg0_ok, at_rng2, lc0_ok, at_lc, wipe_nil, wipe_cons, at_yes, kitT_int_int, kitT_int_bool, kitT_int_str, kitT_int_list, kitT_int_tuple, kitT_int_none, kitT_bool_int, kitT_bool_bool, kitT_bool_str, kitT_bool_list, kitT_bool_tuple, kitT_bool_none, kitT_tuple_int, kitT_tuple_bool, kitT_tuple_str, kitT_tuple_list, kitT_tuple_tuple, kitT_tuple_none, kitT_list_int, kitT_list_bool, kitT_list_str, kitT_list_list, kitT_list_tuple, kitT_list_none, kitT_str_int, kitT_str_bool, kitT_str_str, kitT_str_list, kitT_str_tuple, kitT_str_none, eqD_int, neD_int, eqD_bl, neD_bl, List.map_cons, List.map_nil, List.replicate, List.cons_append, List.nil_append, List.set_cons_zero, List.set_cons_succ, List.getElem?_cons_zero, List.getElem?_cons_succ, List.length_cons, List.length_nil, List.length_map, List.length_range, bind_ok, bind_err, bind_st, ofO_some, ofO_none, then_ok, then_err, then_st, Option.bind_some, Option.bind_none, Option.map_some, Option.map_none, Nat.zero_add, Nat.reduceAdd, Nat.reduceLeDiff, Nat.reduceEqDiff, ite_true, ite_false, if_true, if_false, reduceIte, Bool.not_true, Bool.not_false, Bool.false_eq_true, decide_eq_true_eq, Bool.not_eq_true, Int.reduceLT, Int.reduceLE, Int.reduceNeg, Int.reduceToNat, Int.reducePow, Int.reduceEq, Int.reduceAdd, Int.reduceSub, Int.reduceMul, Nat.reduceLT, decide_true, decide_false, $xs,*])
local macro_rules
  | `(tactic| simp_arith) => `(tactic| simp (config := {failIfUnchanged := false}) only [o0, o1, o2, o3, o4, o5, o6, o7, o8, o9, o10, o11, o12, o13, o14, o15, o16, o17, o18, o19, o20, o21, o22, o23, o24, o25, o26, o27, o28, o29, o30, o31, o32, o33, o34, o35, o36, o37, o38, o39, o40, o41, o42, o43, o44, o45, o46, o47, o48, at_seq, at_skip, at_asg, own_new, at_own, at_drop, at_ret, at_retN, rO_own, at_retOwn, at_if, at_brk, at_cnt, at_raise, ooS_some, unp1_tup, at_unp, setAll_nil, setAll_cons, par1_ok, par1_err, at_par2, frz1_own, frz1_v, at_frz, app0_own, at_app, app1_ok, pop0_own, at_pop, clr0_own, at_clr, aug0_int, aug1_int, at_aug, at_for, for_nil, gnx_some, for_cons, at_gN, at_gU,  at_e1, at_e2, at_st, vO_v, vO_own, at_var, at_c, settle_non, settle_bl, settle_int, settle_str, settle_lst, settle_tup, settle_frz, settle_new, add_int, add_str, add_tup, add_lst_lst, add_lst_new, add_lst_bor, add_new_lst, add_new_new, add_new_bor, add_bor_lst, add_bor_new, add_bor_bor, sub_int, mul_r, mul_l, fdiv_p, mod_p, pow_p, neg_int, lt_int, le_int, gt_int, ge_int, is_bl, ni_bl, is_n_non, ni_n_non, is_n_bl, ni_n_bl, is_n_int, ni_n_int, is_n_str, ni_n_str, is_n_lst, ni_n_lst, is_n_tup, ni_n_tup, is_n_new, ni_n_new, is_n_bor, ni_n_bor, items_lst, len_lst, list_lst, tuple_lst, ix_lst, tru_lst, rev_lst, slice_lst, ty_lst, sum_lst, all_lst, any_lst, items_new, len_new, list_new, tuple_new, ix_new, tru_new, rev_new, slice_new, ty_new, sum_new, all_new, any_new, items_bor, len_bor, list_bor, tuple_bor, ix_bor, tru_bor, rev_bor, slice_bor, ty_bor, sum_bor, all_bor, any_bor, len_tup, len_frz, len_str, list_tup, list_frz, tuple_tup, ix_tup, tru_tup, tru_bl, tru_int, tru_non, slice_tup, slice_frz, revT_tup, int_int, int_bl, abs_int, max_int, min_int, blO_bl, ty_non, ty_bl, ty_int, ty_str, ty_tup, at_tst, at_tst0, nB_ok, nB_err, at_notB, at_andB, at_orB, at_andE, at_orE, nE_ok, nE_err, at_notE, at_ifE, at_nilA, at_consA, tupL_ok, lstL_ok, at_tup, at_lst, callL_0, callL_1, callL_2, callL_3, callL_4, callL_5, at_call, at_chK, at_ch2, at_ch0, chR_ok, at_ch, at_isi, obl_some, isi1_at, kit2_t, kit2_f, at_kitT2, slc_ok, at_slice, at_noO, soO_int, at_someO, sq1_tup, sq1_lst, bl1_ok, bl1_err, bl1_st, at_seqI, rg1_int, at_rng1, rg2_int, rg0_ok, at_rng2, lc0_ok, at_lc, wipe_nil, wipe_cons, at_yes, kitT_int_int, kitT_int_bool, kitT_int_str, kitT_int_list, kitT_int_tuple, kitT_int_none, kitT_bool_int, kitT_bool_bool, kitT_bool_str, kitT_bool_list, kitT_bool_tuple, kitT_bool_none, kitT_tuple_int, kitT_tuple_bool, kitT_tuple_str, kitT_tuple_list, kitT_tuple_tuple, kitT_tuple_none, kitT_list_int, kitT_list_bool, kitT_list_str, kitT_list_list, kitT_list_tuple, kitT_list_none, kitT_str_int, kitT_str_bool, kitT_str_str, kitT_str_list, kitT_str_tuple, kitT_str_none, eqD_int, neD_int, eqD_bl, neD_bl, List.map_cons, List.map_nil, List.replicate, List.cons_append, List.nil_append, List.set_cons_zero, List.set_cons_succ, List.getElem?_cons_zero, List.getElem?_cons_succ, List.length_cons, List.length_nil, List.length_map, List.length_range, bind_ok, bind_err, bind_st, ofO_some, ofO_none, then_ok, then_err, then_st, Option.bind_some, Option.bind_none, Option.map_some, Option.map_none, Nat.zero_add, Nat.reduceAdd, Nat.reduceLeDiff, Nat.reduceEqDiff, ite_true, ite_false, if_true, if_false, reduceIte, Bool.not_true, Bool.not_false, Bool.false_eq_true, decide_eq_true_eq, Bool.not_eq_true, Int.reduceLT, Int.reduceLE, Int.reduceNeg, Int.reduceToNat, Int.reducePow, Int.reduceEq, Int.reduceAdd, Int.reduceSub, Int.reduceMul, Nat.reduceLT, decide_true, decide_false])

/-! ### words, stacks -/
def stp : List Int → Int → List Int
  | [], x => [x]
  | y :: s, x => if y = x then s else x :: y :: s
theorem stp_cons (y : Int) (s : List Int) (x : Int) : stp (y :: s) x = if y = x then s else x :: y :: s := rfl
/-- no number twice in a row -/
def NP : List Int → Prop
  | a :: b :: r => a ≠ b ∧ NP (b :: r)
  | _ => True
def red (w : List Int) : List Int := (w.foldl stp []).reverse
theorem NP.tail {a : Int} {r : List Int} (h : NP (a :: r)) : NP r := by
  cases r with
  | nil => trivial
  | cons b r => exact h.2
theorem NP.stp {s : List Int} (h : NP s) (x : Int) : NP (stp s x) := by
  cases s with
  | nil => trivial
  | cons y s =>
    rw [stp_cons]
    split
    · exact h.tail
    · rename_i ne
      exact ⟨fun e => ne e.symm, h⟩
theorem stp_stp {s : List Int} (h : NP s) (x : Int) : stp (stp s x) x = s := by
  cases s with
  | nil => simp [stp]
  | cons y s =>
    by_cases e : y = x
    · subst e
      have e1 : stp (y :: s) y = s := by simp [stp]
      rw [e1]
      cases s with
      | nil => rfl
      | cons z s =>
        have : ¬ z = y := fun e => h.1 e.symm
        simp [stp, this]
    · simp [stp, e]
theorem NP.fold : ∀ (w s : List Int), NP s → NP (w.foldl DL.stp s)
  | [], _, h => h
  | x :: w, s, h => NP.fold w _ (h.stp x)
theorem red_pair (a b : List Int) (x : Int) : red (a ++ x :: x :: b) = red (a ++ b) := by
  unfold red
  rw [List.foldl_append, List.foldl_append, List.foldl_cons, List.foldl_cons, stp_stp (NP.fold a [] trivial)]
theorem fold_np : ∀ (w s : List Int), NP w → (∀ x y, w.head? = some x → s.head? = some y → y ≠ x) → w.foldl stp s = w.reverse ++ s
  | [], s, _, _ => rfl
  | x :: w, s, h, hd => by
    have e : stp s x = x :: s := by
      cases s with
      | nil => rfl
      | cons y s =>
        have := hd x y rfl rfl
        simp [stp, this]
    rw [List.foldl_cons, e, fold_np w (x :: s) h.tail (fun z y hz hy => by
      cases w with
      | nil => cases hz
      | cons b w =>
        obtain rfl := Option.some.inj hz
        obtain rfl := Option.some.inj hy
        exact h.1)]
    simp
theorem red_np {w : List Int} (h : NP w) : red w = w := by
  unfold red
  rw [fold_np w [] h (fun _ _ _ hy => by cases hy)]
  simp
theorem fold_len : ∀ (w s : List Int), (w.foldl stp s).length ≤ w.length + s.length
  | [], s => by simp
  | x :: w, s => by
    have h := fold_len w (stp s x)
    have : (stp s x).length ≤ s.length + 1 := by
      cases s with
      | nil => simp [stp]
      | cons y s => rw [stp_cons]; split <;> simp <;> omega
    rw [List.foldl_cons, List.length_cons]
    omega
theorem red_len (w : List Int) : (red w).length ≤ w.length := by
  have := fold_len w []
  unfold red
  simpa using this
theorem fold_mem : ∀ (w s : List Int) (x : Int), x ∈ w.foldl stp s → x ∈ w ∨ x ∈ s
  | [], s, x, h => .inr h
  | y :: w, s, x, h => by
    rcases fold_mem w (stp s y) x h with h | h
    · exact .inl (List.mem_cons_of_mem _ h)
    · cases s with
      | nil => simp [stp] at h; exact .inl (by simp [h])
      | cons z s =>
        rw [stp_cons] at h
        split at h
        · exact .inr (List.mem_cons_of_mem _ h)
        · rw [List.mem_cons] at h
          exact h.elim (fun e => .inl (by simp [e])) .inr
theorem red_mem {w : List Int} {x : Int} (h : x ∈ red w) : x ∈ w := by
  unfold red at h
  rw [List.mem_reverse] at h
  exact (fold_mem w [] x h).elim id fun h => nomatch h

/-- a word, as it is handed in -/
inductive IsW : D → List Int → Prop
  | t (w : List Int) : IsW (.tup (il w)) w
  | l (w : List Int) : IsW (.lst (il w)) w
def W4 (w : List Int) : Prop := ∀ x ∈ w, 1 ≤ x ∧ x ≤ 4

/-! the law's own word -/
def lwB : Es := (retS (e1 tupleD (lcE (rng1I (varE 2)) [3] (gN 3) yesB (e2 addD (cE (.int 1)) (e2 modD (e1 intD (e2 ixD (varE 0) (e2 addD (varE 1) (varE 3)))) (cE (.int 4)))))))
theorem lw_ok (L : List Int) (a m : Int) (h0 : 0 ≤ a) (h1 : 0 ≤ m) (h2 : a + m ≤ L.length) (h3 : m ≤ 1000000) :
    runF 1 lwB [.lst (il L), .int a, .int m] = .ok (.tup (il ((List.range m.toNat).map fun k : Nat => 1 + L.getD (a + (k : Int)).toNat 0 % 4))) := by
  have hm1 : -4611686018427387904 ≤ m := by omega
  have hm2 : m < 4611686018427387904 := by omega
  have hl : m.toNat ≤ 16777216 := by omega
  have key : lcO (gN 3) yesB (e2 addD (cE (.int 1)) (e2 modD (e1 intD (e2 ixD (varE 0) (e2 addD (varE 1) (varE 3)))) (cE (.int 4)))) [.v (.lst (il L)), .v (.int a), .v (.int m), .un] ((List.range m.toNat).map fun i : Nat => D.int (0 + (i : Int))) =
      .ok (((List.range m.toNat).map fun i : Nat => D.int (0 + (i : Int))).map fun d => match d with | .int k => .int (1 + L.getD (a + k).toNat 0 % 4) | d => d) := by
    refine lc_map fun d hd => ?_
    obtain ⟨k, hk, rfl⟩ := List.mem_map.mp hd
    rw [List.mem_range] at hk
    refine ⟨_, rfl, rfl, ?_⟩
    have e1 := atI_ints (l := L) (i := a + (0 + (k : Int))) (by omega) (by omega)
    have e4 : (0 : Int) < 4 := by decide
    simp_arith [e1, e4]
  simp_arith [at_run, lwB, hm1, hm2, rngI, hl, key]
  simp [List.map_map, Function.comp_def]
theorem lw_len (L : List Int) (a m : Int) : ((List.range m.toNat).map fun k : Nat => 1 + L.getD (a + (k : Int)).toNat 0 % 4).length = m.toNat := by simp
theorem lw_4 (L : List Int) (a m : Int) : W4 ((List.range m.toNat).map fun k : Nat => 1 + L.getD (a + (k : Int)).toNat 0 % 4) := by
  intro x hx
  obtain ⟨k, _, rfl⟩ := List.mem_map.mp hx
  have := Int.emod_nonneg (L.getD (a + (k : Int)).toNat 0) (show (4 : Int) ≠ 0 by decide)
  have := Int.emod_lt_of_pos (L.getD (a + (k : Int)).toNat 0) (show (0 : Int) < 4 by decide)
  omega

/-! the program's words -/
def placeB : Es := (retS (andE (isiE (kitT "int") (varE 0)) (andE (notE (isiE (kitT "bool") (varE 0))) (chE leD leD (cE (.int 1)) (varE 0) (cE (.int 4))))))
theorem place_int {n : Int} : runF 0 placeB [.int n] = .ok (.bl (decide (1 ≤ n) && decide (n ≤ 4))) := by
  by_cases h : 1 ≤ n
  · simp_arith [at_run, placeB, h, Bool.true_and]
  · simp_arith [at_run, placeB, h, Bool.false_and]
def chkLB (C : Addr) : Es := (ifS (notB (tstE (callE 1 (runF 0 placeB) (consA (varE 1) nilA))))
  (raiseS ⟨.ref C, none⟩)
  skipS)
def chkB (C : Addr) : Es := (seqS (ifS (notB (tstE (isiE (kitT2 "tuple" "list") (varE 0))))
  (raiseS ⟨.ref C, none⟩)
  skipS)
  (forS (seqI (varE 0)) (gN 1) (chkLB C)))
theorem chk_loop (C : Addr) (w : D) : ∀ (W : List Int), W4 W → ∀ sl, ∃ sl', forO (gN 1) (chkLB C) (il W) [.v w, sl] = .nx [.v w, sl']
  | [], _, sl => ⟨sl, rfl⟩
  | x :: W, h, sl => by
    obtain ⟨sl', e⟩ := chk_loop C w W (fun y m => h y (List.mem_cons_of_mem _ m)) (.v (.int x))
    refine ⟨sl', ?_⟩
    have h1 := h x (List.mem_cons_self ..)
    have e1 : il (x :: W) = D.int x :: il W := rfl
    rw [← e, e1]
    simp_arith [chkLB, place_int, h1.1, h1.2, Bool.true_and]
theorem chk_ok (C : Addr) {d : D} {W : List Int} (i : IsW d W) (h : W4 W) : runF 1 (chkB C) [d] = .ok .non := by
  cases i with
  | t =>
    obtain ⟨sl, e⟩ := chk_loop C (.tup (il W)) W h .un
    simp_arith [at_run, chkB, e]
  | l =>
    obtain ⟨sl, e⟩ := chk_loop C (.lst (il W)) W h .un
    simp_arith [at_run, chkB, e]
def redLB : Es := (ifS (andB (tstE (varE 1)) (tst0 (e2 eqD (e2 ixD (varE 1) (e1 negD (cE (.int 1)))) (varE 2))))
  (popS 1)
  (appS 1 (varE 2)))
def redB (chk : List D → Res D) : Es := (seqS (dropS (callE 1 chk (consA (varE 0) nilA)))
  (seqS (ownS 1 (lstE nilA))
  (seqS (forS (seqI (varE 0)) (gN 2) redLB)
  (retS (e1 tupleD (varE 1))))))
theorem atI_last {s : List Int} {y : Int} : L2.atI (il (s.reverse ++ [y])) (-1) = some (.int y) := by
  unfold L2.atI L2.ixN
  rw [if_neg (by decide), if_pos (by simp; omega)]
  simp only [Option.bind_some]
  have : ((-1 : Int) + (il (s.reverse ++ [y])).length).toNat = s.length := by simp; omega
  rw [this]
  simp
theorem red_loop (w : D) : ∀ (W s : List Int) (sl : Slot), s.length + W.length < 16777216 → ∃ sl', forO (gN 2) redLB (il W) [.v w, .own (il s.reverse), sl] = .nx [.v w, .own (il (W.foldl stp s).reverse), sl']
  | [], s, sl, _ => ⟨sl, rfl⟩
  | x :: W, s, sl, hl => by
    rw [List.length_cons] at hl
    obtain ⟨sl', e⟩ := red_loop w W (stp s x) (.v (.int x)) (by
      have : (stp s x).length ≤ s.length + 1 := by
        cases s with
        | nil => simp [stp]
        | cons y s => rw [stp_cons]; split <;> simp <;> omega
      omega)
    refine ⟨sl', ?_⟩
    have e1 : il (x :: W) = D.int x :: il W := rfl
    rw [List.foldl_cons, ← e, e1]
    cases s with
    | nil =>
      have e2 : il ([] : List Int).reverse = [] := rfl
      have e3 : il (stp [] x).reverse = [D.int x] := rfl
      rw [e2, e3]
      simp_arith [redLB, List.isEmpty_nil, app1_ok, Nat.reduceLT]
    | cons y s =>
      have e2 : il (y :: s).reverse = il (s.reverse ++ [y]) := by rw [List.reverse_cons]
      have e4 : (il (s.reverse ++ [y])).isEmpty = false := by simp
      have e5 : (s.reverse ++ [y]).length < 16777216 := by simp at hl ⊢; omega
      rw [e2]
      by_cases h : y = x
      · have e3 : (il (stp (y :: s) x).reverse) = (il (s.reverse ++ [y])).dropLast := by rw [stp_cons, if_pos h]; simp
        rw [e3]
        have e6 : (y == x) = true := by simp [h]
        simp_arith [redLB, e4, atI_last, e6]
      · have e3 : (il (stp (y :: s) x).reverse) = il (s.reverse ++ [y]) ++ [D.int x] := by rw [stp_cons, if_neg h]; simp
        rw [e3]
        have e6 : (y == x) = false := by simp [h]
        simp_arith [redLB, e4, atI_last, e6, app1_ok, e5]
theorem red_ok {chk : List D → Res D} {d : D} {W : List Int} (i : IsW d W) (hc : chk [d] = .ok .non) (hl : W.length < 16777216) : runF 2 (redB chk) [d] = .ok (.tup (il (red W))) := by
  obtain ⟨sl, e⟩ := red_loop d W [] .un (by simpa using hl)
  have e0 : il ([] : List Int).reverse = [] := rfl
  rw [e0] at e
  cases i with
  | t => simp_arith [at_run, redB, hc, Nat.zero_le, e]; rfl
  | l => simp_arith [at_run, redB, hc, Nat.zero_le, e]; rfl
def joinB (chk red : List D → Res D) : Es := (seqS (dropS (callE 1 chk (consA (varE 0) nilA)))
  (seqS (dropS (callE 1 chk (consA (varE 1) nilA)))
  (retS (callE 1 red (consA (e2 addD (e1 tupleD (varE 0)) (e1 tupleD (varE 1))) nilA)))))
theorem join_ok {chk rd : List D → Res D} {d e : D} {V W R : List Int} (i : IsW d V) (j : IsW e W) (hd : chk [d] = .ok .non) (he : chk [e] = .ok .non)
    (hr : rd [.tup (il (V ++ W))] = .ok (.tup (il R))) (hl : V.length + W.length ≤ 16777216) : runF 0 (joinB chk rd) [d, e] = .ok (.tup (il R)) := by
  rw [il, List.map_append] at hr
  cases i <;> cases j <;> simp_arith [at_run, joinB, hd, he, hl, hr]
def backB (chk : List D → Res D) : Es := (seqS (dropS (callE 1 chk (consA (varE 0) nilA)))
  (retS (e1 revT (e1 tupleD (varE 0)))))
theorem back_ok {chk : List D → Res D} {d : D} {W : List Int} (i : IsW d W) (hc : chk [d] = .ok .non) : runF 0 (backB chk) [d] = .ok (.tup (il W.reverse)) := by
  cases i <;> (simp_arith [at_run, backB, hc]; simp)

theorem rngI_succ (lo : Int) (n : Nat) : rngI lo (n + 1) = .int lo :: rngI (lo + 1) n := by
  unfold rngI
  rw [List.range_succ_eq_map]
  simp only [List.map_cons, List.map_map, Function.comp_def]
  congr 1
  · simp
  · refine List.map_congr_left fun k _ => ?_
    congr 1
    omega
theorem rngI_zero (lo : Int) : rngI lo 0 = [] := rfl
theorem rngI_length (lo : Int) (n : Nat) : (rngI lo n).length = n := by simp [rngI]
theorem cut_from {α : Type} {L : List α} {n : Int} (h0 : 0 ≤ n) (h : n ≤ L.length) : cutL L (some n) none = L.drop n.toNat := by
  unfold cutL
  rw [HT.sIx_none]
  obtain ⟨k, rfl⟩ := Int.eq_ofNat_of_zero_le h0
  rw [HT.sIx_nat, Nat.min_eq_left (by omega), List.take_of_length_le (by simp)]
  simp
def lrdS : Es := (ifS (tst0 (e2 eqD (e2 ixD (varE 1) (varE 3)) (e2 ixD (varE 1) (e2 addD (varE 3) (cE (.int 1))))))
  (seqS (asgS 1 (e2 addD (sliceE (varE 1) noO (someO (varE 3))) (sliceE (varE 1) (someO (e2 addD (varE 3) (cE (.int 2)))) noO)))
  brkS)
  skipS)
def lrdT : Es := (forS (rng1I (e2 subD (e1 lenD (varE 1)) (cE (.int 1)))) (gN 3) lrdS)
def lrdB : Es := (seqS (asgS 1 (e1 listD (varE 0)))
  (seqS (forS (rng1I (e1 lenD (varE 0))) (gN 2) lrdT)
  (retS (e1 tupleD (varE 1)))))
theorem atI_at {a r : List Int} {x : Int} {k : Int} (h : k = a.length) : L2.atI (il (a ++ x :: r)) k = some (.int x) := by
  subst h
  unfold L2.atI L2.ixN
  rw [if_pos (by omega), if_pos (by simp; omega)]
  simp
theorem atI_at1 {a r : List Int} {x y : Int} {k : Int} (h : k = a.length) : L2.atI (il (a ++ x :: y :: r)) (k + 1) = some (.int y) := by
  have e : il (a ++ x :: y :: r) = il ((a ++ [x]) ++ y :: r) := by simp
  rw [e]
  exact atI_at (by simp; omega)
theorem lrd_in (w t : Slot) : ∀ (rest a : List Int) (x : Int) (sl : Slot), a.length + rest.length < 16777000 →
    ∃ sl' R, forO (gN 3) lrdS (rngI (a.length : Int) rest.length) [w, .v (.lst (il (a ++ x :: rest))), t, sl] = .nx [w, .v (.lst (il R)), t, sl'] ∧
      ((R = a ++ x :: rest ∧ NP (x :: rest)) ∨ ∃ b y c, x :: rest = b ++ y :: y :: c ∧ R = a ++ (b ++ c))
  | [], a, x, sl, _ => ⟨sl, _, rfl, .inl ⟨rfl, trivial⟩⟩
  | y :: rest, a, x, sl, hl => by
    rw [List.length_cons] at hl
    rw [List.length_cons, rngI_succ]
    have h1 := atI_at (a := a) (r := y :: rest) (x := x) (k := a.length) rfl
    have h2 := atI_at1 (a := a) (r := rest) (x := x) (y := y) (k := a.length) rfl
    by_cases h : x = y
    · have e6 : (x == y) = true := by simp [h]
      have c1 : cutL (il (a ++ x :: y :: rest)) none (some (a.length : Int)) = il a := by
        rw [cut_to (by omega) (by simp; omega)]
        simp
      have c2 : cutL (il (a ++ x :: y :: rest)) (some ((a.length : Int) + 2)) none = il rest := by
        rw [cut_from (by omega) (by simp; omega)]
        have : ((a.length : Int) + 2).toNat = a.length + 2 := by omega
        rw [this, show il (a ++ x :: y :: rest) = il (a ++ [x, y]) ++ il rest by simp]
        rw [List.drop_append_of_le_length (by simp), List.drop_of_length_le (by simp)]
        rfl
      have c3 : a.length + rest.length ≤ 16777216 := by omega
      refine ⟨.v (.int a.length), a ++ rest, ?_, .inr ⟨[], x, rest, by simp [h], by simp⟩⟩
      have e7 : il (a ++ rest) = il a ++ il rest := by simp
      rw [e7]
      simp_arith [lrdS, h1, h2, e6, c1, c2, c3]
    · have e6 : (x == y) = false := by simp [h]
      obtain ⟨sl', R, g1, g2⟩ := lrd_in w t rest (a ++ [x]) y (.v (.int a.length)) (by simp; omega)
      refine ⟨sl', R, ?_, ?_⟩
      · rw [← g1]
        have e8 : ((a.length : Int) + 1) = ((a ++ [x]).length : Int) := by simp
        have e9 : a ++ x :: y :: rest = (a ++ [x]) ++ y :: rest := by simp
        rw [e9] at h1 h2
        rw [e8, e9]
        rw [e8] at h2
        simp_arith [lrdS, h1, h2, e6]
        simp_arith [e8, h2, h1, e6]
      · rcases g2 with ⟨g2, g3⟩ | ⟨b, z, c, g2, g3⟩
        · exact .inl ⟨by rw [g2]; simp, h, g3⟩
        · exact .inr ⟨x :: b, z, c, by rw [g2]; rfl, by rw [g3]; simp⟩
theorem lrd_turn (w t sl : Slot) (F : List Int) (hl : F.length < 16777000) :
    ∃ sl' R, lrdT [w, .v (.lst (il F)), t, sl] = .nx [w, .v (.lst (il R)), t, sl'] ∧ red R = red F ∧ ((R = F ∧ NP F) ∨ R.length + 2 ≤ F.length) := by
  cases F with
  | nil =>
    refine ⟨sl, [], ?_, rfl, .inl ⟨rfl, trivial⟩⟩
    have e : il ([] : List Int) = [] := rfl
    rw [e]
    simp_arith [lrdT, Int.cast_ofNat_Int, Int.zero_sub, rngI_zero]
  | cons x rest =>
    obtain ⟨sl', R, g1, g2⟩ := lrd_in w t rest [] x sl (by simp at hl ⊢; omega)
    refine ⟨sl', R, ?_, ?_⟩
    · rw [← g1]
      have e1 : (((x :: rest).length : Int) - 1).toNat = rest.length := by simp
      have e2 : ((([] : List Int).length : Nat) : Int) = 0 := rfl
      have e3 : -4611686018427387904 ≤ ((x :: rest).length : Int) - 1 := by omega
      have e4 : ((x :: rest).length : Int) - 1 < 4611686018427387904 := by omega
      rw [List.length_cons] at e1 e3 e4
      rw [e2, List.nil_append]
      simp_arith [lrdT, e3, e4, e1]
    · rcases g2 with ⟨g2, g3⟩ | ⟨b, z, c, g2, g3⟩
      · rw [List.nil_append] at g2
        exact ⟨by rw [g2], .inl ⟨g2, g3⟩⟩
      · rw [List.nil_append] at g3
        refine ⟨by rw [g2, g3, red_pair], .inr ?_⟩
        rw [g3, g2]; simp; omega
theorem lrd_loop (w : Slot) : ∀ (n : Nat) (lo : Int) (F : List Int) (t sl : Slot), F.length < 16777000 →
    ∃ t' sl' R, forO (gN 2) lrdT (rngI lo n) [w, .v (.lst (il F)), t, sl] = .nx [w, .v (.lst (il R)), t', sl'] ∧ red R = red F ∧ ((NP R) ∨ R.length + 2 * n ≤ F.length)
  | 0, lo, F, t, sl, _ => ⟨t, sl, F, rfl, rfl, .inr (by omega)⟩
  | n + 1, lo, F, t, sl, hl => by
    obtain ⟨sl1, R1, g1, g2, g3⟩ := lrd_turn w (.v (.int lo)) sl F hl
    have hl1 : R1.length < 16777000 := by
      rcases g3 with ⟨g3, _⟩ | g3
      · rw [g3]; exact hl
      · omega
    obtain ⟨t', sl', R, k1, k2, k3⟩ := lrd_loop w n (lo + 1) R1 (.v (.int lo)) sl1 hl1
    refine ⟨t', sl', R, ?_, by rw [k2, g2], ?_⟩
    · rw [← k1, rngI_succ]
      simp_arith [g1]
    · rcases k3 with k3 | k3
      · exact .inl k3
      · rcases g3 with ⟨g3, g4⟩ | g3
        · refine .inl ?_
          cases n with
          | zero =>
            have : R = R1 := by
              have k1' := k1
              simp only [rngI_zero, forO, Out.nx.injEq, List.cons.injEq, Slot.v.injEq, D.lst.injEq] at k1'
              have := k1'.2.1
              exact (List.map_inj_right (fun a b h => by injection h)).mp this.symm
            rw [this, g3]; exact g4
          | succ n =>
            have h1 := red_np g4
            have h2 := red_len R
            rw [k2, g2, h1] at h2
            rw [g3] at k3
            have : R.length = 0 ∧ F.length = 0 := by omega
            have : R = [] := List.length_eq_zero_iff.mp (by omega)
            rw [this]; trivial
        · exact .inr (by omega)
theorem lrd_ok {W : List Int} (hl : W.length < 16777000) : runF 3 lrdB [.tup (il W)] = .ok (.tup (il (red W))) := by
  obtain ⟨t', sl', R, g1, g2, g3⟩ := lrd_loop (.v (.tup (il W))) W.length 0 W .un .un hl
  have hR : R = red W := by
    rcases g3 with g3 | g3
    · rw [← g2, red_np g3]
    · have : W.length = 0 ∧ R.length = 0 := by omega
      have e1 : W = [] := List.length_eq_zero_iff.mp this.1
      have e2 : R = [] := List.length_eq_zero_iff.mp this.2
      rw [e1, e2]; rfl
  have h1 : -4611686018427387904 ≤ (W.length : Int) := by omega
  have h2 : (W.length : Int) < 4611686018427387904 := by omega
  have h3 : (W.length : Int).toNat = W.length := by omega
  rw [← hR]
  simp_arith [at_run, lrdB, h1, h2, h3, g1]
/-! is it reduced -/
def same1 (W : List Int) (k : Nat) : Bool := W.getD k 0 == W.getD (k + 1) 0
def isrB (chk : List D → Res D) : Es := (seqS (dropS (callE 1 chk (consA (varE 0) nilA)))
  (retS (e1 allD (lcE (rng1I (e2 subD (e1 lenD (varE 0)) (cE (.int 1)))) [1] (gN 1) yesB (e2 neD (e2 ixD (varE 0) (varE 1)) (e2 ixD (varE 0) (e2 addD (varE 1) (cE (.int 1)))))))))
theorem isr_ok {chk : List D → Res D} {d : D} {W : List Int} (i : IsW d W) (hc : chk [d] = .ok .non) (hl : W.length < 16777000) :
    runF 1 (isrB chk) [d] = .ok (.bl (((List.range (W.length - 1)).map fun k => !same1 W k).all id)) := by
  have h1 : -4611686018427387904 ≤ (W.length : Int) - 1 := by omega
  have h2 : (W.length : Int) - 1 < 4611686018427387904 := by omega
  have h3 : ((W.length : Int) - 1).toNat = W.length - 1 := by omega
  have h4 : W.length - 1 ≤ 16777216 := by omega
  have key : lcO (gN 1) yesB (e2 neD (e2 ixD (varE 0) (varE 1)) (e2 ixD (varE 0) (e2 addD (varE 1) (cE (.int 1))))) [.v d, .un] (rngI 0 (W.length - 1)) =
      .ok ((rngI 0 (W.length - 1)).map fun d => match d with | .int k => .bl (!same1 W k.toNat) | d => d) := by
    refine lc_map fun e he => ?_
    unfold rngI at he
    obtain ⟨k, hk, rfl⟩ := List.mem_map.mp he
    rw [List.mem_range] at hk
    refine ⟨_, rfl, rfl, ?_⟩
    have e1 := atI_ints (l := W) (i := 0 + (k : Int)) (by omega) (by omega)
    have e2 := atI_ints (l := W) (i := 0 + (k : Int) + 1) (by omega) (by omega)
    have e3 : (0 + (k : Int) + 1).toNat = (0 + (k : Int)).toNat + 1 := by omega
    have e4 : ∀ a b : Int, (a != b) = !(a == b) := fun a b => rfl
    rw [e3] at e2
    cases i <;> (simp_arith [e1, e2, e4]; unfold same1; exact rfl)
  have key2 : (rngI 0 (W.length - 1)).map (fun d => match d with | .int k => D.bl (!same1 W k.toNat) | d => d) = ((List.range (W.length - 1)).map fun k => !same1 W k).map D.bl := by
    unfold rngI
    rw [List.map_map, List.map_map]
    refine List.map_congr_left fun k _ => ?_
    simp [Function.comp_def]
  rw [key2] at key
  cases i <;> simp_arith [at_run, isrB, hc, h1, h2, h3, rngI_length, h4, key, asBls_bls]
theorem all_not {p : Nat → Bool} : ∀ l : List Nat, (l.map fun k => !p k).all id = ((l.filter p).length == 0)
  | [] => rfl
  | k :: l => by
    rw [List.map_cons, List.all_cons, all_not l]
    cases h : p k with
    | true => rw [List.filter_cons_of_pos h]; simp
    | false => rw [List.filter_cons_of_neg (by simp [h])]; simp
end DL

namespace DL
open PySem L2

/-! ### try, except -/
open Classical in
/-- what comes out whatever a is -/
noncomputable def joinA (g : Addr → Out) : Out := if ∀ a, g a = g 0 then g 0 else .st
theorem joinA_of {g : Addr → Out} {o : Out} (h : ∀ a, g a = o) : joinA g = o := by
  unfold joinA
  rw [if_pos fun a => by rw [h a, h 0], h 0]
theorem joinA_const {o : Out} : joinA (fun _ => o) = o := joinA_of fun _ => rfl
def clrO (i : Nat) : Out → Out
  | .nx ρ => .nx (ρ.set i .un)
  | .bk ρ => .bk (ρ.set i .un)
  | .ct ρ => .ct (ρ.set i .un)
  | .rt d => .rt d
  | _ => .st
/-- does the clause take the error: what is known of single classes -/
def mtL : List (Addr × Bool) → Ex → Option Bool
  | l, ⟨.ref a, none⟩ => l.lookup a
  | _, _ => none
noncomputable def catchA (i : Nat) (mt : Ex → Option Bool) (fh : Addr → Es) : Out → Out
  | .er x ρ => (match mt x with
    | some true => joinA fun a => clrO i (fh a (ρ.set i (.exc a)))
    | some false => .er x ρ
    | none => .st)
  | o => o
noncomputable def tryAs (i : Nat) (fb : Es) (mt : Ex → Option Bool) (fh : Addr → Es) : Es := fun ρ => catchA i mt fh (fb ρ)
def noEr : Out → Out
  | .er _ _ => .st
  | o => o
def catchO (mt : Ex → Option Bool) (fh : Es) : Out → Out
  | .er x ρ => (match mt x with
    | some true => noEr (fh ρ)
    | some false => .er x ρ
    | none => .st)
  | o => o
def tryO (fb : Es) (mt : Ex → Option Bool) (fh : Es) : Es := fun ρ => catchO mt fh (fb ρ)
theorem mtL_ok {l : List (Addr × Bool)} {x : Ex} {b : Bool} (h : mtL l x = some b) : ∃ C, x = ⟨.ref C, none⟩ ∧ l.lookup C = some b := by
  obtain ⟨c, fs⟩ := x
  cases c <;> cases fs <;> first | exact ⟨_, rfl, h⟩ | cases h
def MtOk (K : PySem.W.Frag) (c : Value) (l : List (Addr × Bool)) : Prop := ∀ C b, l.lookup C = some b → PySem.W.exmOne K (.ref C) c = some b
theorem mt_nil {K : PySem.W.Frag} {c : Value} : MtOk K c [] := fun _ _ h => nomatch h
theorem mt_cons {K : PySem.W.Frag} {c : Value} {C : Addr} {b : Bool} {l : List (Addr × Bool)} (h : PySem.W.exmOne K (.ref C) c = some b) (r : MtOk K c l) : MtOk K c ((C, b) :: l) := fun C' b' e => by
  rw [List.lookup_cons] at e
  split at e
  · rename_i q
    cases e
    rw [eq_of_beq q]; exact h
  · exact r _ _ e
theorem kit_ofT {K : PySem.W.Frag} {A : Addr} {T : String} {b : Bool} (hm : PySem.W.kitMeta T = true) (h : PySem.W.subIn K (.ref A) (.type T) = some b) : PySem.W.kitOne K (.ref A) (.type T) = some b := by
  unfold PySem.W.kitOne
  have e : (Value.ref A == Value.type T) = false := rfl
  rw [e]
  show (if PySem.W.kitMeta T = true then PySem.W.subIn K (.ref A) (.type T) else none) = some b
  rw [if_pos hm]
  exact h
theorem kit_ofC {K : PySem.W.Frag} {A B : Addr} {b : Bool} (hd : PySem.W.hasDictIn K B = true) (ht : PySem.W.typeIn K (.ref B) = some (.type "type")) (h : PySem.W.subIn K (.ref A) (.ref B) = some b) (ne : b = true ∨ (Value.ref A == Value.ref B) = false) : PySem.W.kitOne K (.ref A) (.ref B) = some b := by
  obtain ⟨cd, hc, _⟩ := PySem.W.any_some hd
  have e2 : ((PySem.W.clsIn K B).isSome && PySem.W.typeIn K (.ref B) == some (.type "type")) = true := by rw [hc, ht] <;> rfl
  unfold PySem.W.kitOne
  have k : PySem.W.kitCls K (.ref A) (.ref B) = some b := by
    show (if ((PySem.W.clsIn K B).isSome && PySem.W.typeIn K (.ref B) == some (.type "type")) = true then PySem.W.subIn K (.ref A) (.ref B) else none) = some b
    rw [if_pos e2]; exact h
  rw [k]
  rcases ne with rfl | ne
  · split <;> rfl
  · rw [ne]; rfl
section
variable {X : Cx} {x n : Str} {c : Value} {i : Nat} {body suite : List Stmt} {b₀ : Stmt} {np pos pos' : Pos} {fb : Es} {W : WX} {K : PySem.W.Frag} {S0 H0 : Hp} {D0 : Ends}
theorem pss_guard {sts : List Stmt} {p : Prop} {t : TS} (h : p → PSs X sts t) : PSs X sts (fun D σ H => p ∧ t D σ H) := ⟨fun pins s σ H D I q => (h q.1).run pins s σ H D I q.2⟩
theorem Rel.unset {S H : Hp} {σ : St} {ρ : Rho} (R : Rel K S0 H0 S H σ ρ) (i : Nat) : Rel K S0 H0 S H (σ.set i none) (ρ.set i .un) := by
  have := R.wiped [i]
  exact this
/-- try .. except x as n: one class of errors -/
theorem s_tryAs {C0 : Addr} {b0 : Bool} {fh : Addr → Es} (hs : X.stack = X.env :: X.outer) (hf : X.env.frame = some X.env.locals) (hN : X.N.Nodup) (hi : X.N[i]? = some n) (hln : X.env.kindOf n = some .local) (hc : Names X x c) (tk : Takes X W)
    (hm : PySem.W.exmOne X.K (.ref C0) c = some b0)
    (hb : ∀ (W : WX) (pn : List (Addr × Obj)) (xe : Value → Shared → Prop), Takes (X.tr pn xe) W → PassesOwn (model X.prog X.w) X.A X.env xe → PSs (X.tr pn xe) body (TSt X.K W fb))
    (hsu : ∀ (a : Addr) (oe : Obj) (pn : List (Addr × Obj)), Zc (.ref C0) none oe → (∃ vs, oe.data = .fields vs) → PSs (X.suite a ((a, oe) :: pn)) (b₀ :: suite) (TSt X.K noW (fh a))) :
    PS X (.Try body [.ExceptHandler (some (.Name x np)) (some n) (b₀ :: suite) pos'] [] [] pos) (TSt X.K W (tryAs i fb (mtL [(C0, b0)]) fh)) := by
  refine PS.imp (ps_try_as (tb := fun W => TSt X.K W fb) (ts := fun a cls d => fun D σ H => (cls = .ref C0 ∧ d = none) ∧ TSt X.K noW (fh a) D σ H) hs hf hN hi hln hc tk hb (fun a oe cls d pn hz hd => pss_guard fun g => ?_)) fun D σ H q => ?_
  · obtain ⟨rfl, rfl⟩ := g
    exact hsu a oe pn hz hd
  · obtain ⟨S0, H0, S, ρ, R, p⟩ := q
    refine ⟨S0, H0, S, ρ, R, ?_⟩
    unfold tryAs at p
    cases e : fb ρ with
    | nx ρ' => rw [e] at p; exact p
    | rt d => rw [e] at p; exact p
    | bk ρ' => rw [e] at p; exact p
    | ct ρ' => rw [e] at p; exact p
    | st => rw [e] at p; exact p
    | er y ρ' =>
      rw [e] at p
      intro dd σ' S' H' R' hx
      have pm : PostS X.K W S0 H0 D (match mtL [(C0, b0)] y with
        | some true => joinA fun a => clrO i (fh a (ρ'.set i (.exc a)))
        | some false => .er y ρ'
        | none => .st) := p
      cases e2 : mtL [(C0, b0)] y with
      | none => rw [e2] at pm; exact pm.elim
      | some b =>
        obtain ⟨C, rfl, e3⟩ := mtL_ok e2
        rw [e2] at pm
        rw [List.lookup_cons] at e3
        have e4 : C = C0 ∧ b = b0 := by
          split at e3
          · rename_i q
            cases e3
            exact ⟨eq_of_beq q, rfl⟩
          · cases e3
        obtain ⟨rfl, rfl⟩ := e4
        have hd : dd = none := hx
        subst hd
        refine ⟨b, hm, fun hb a ha => ⟨⟨rfl, rfl⟩, ?_⟩, fun hb => ?_⟩
        · subst hb
          have pj : PostS X.K W S0 H0 D (joinA fun a => clrO i (fh a (ρ'.set i (.exc a)))) := pm
          unfold joinA at pj
          split at pj
          · rename_i all
            have p : PostS X.K W S0 H0 D (clrO i (fh a (ρ'.set i (.exc a)))) := by
              have this : clrO i (fh a (ρ'.set i (.exc a))) = clrO i (fh 0 (ρ'.set i (.exc 0))) := all a
              rw [this]; exact pj
            refine ⟨S0, H0, S', ρ'.set i (.exc a), R'.set (s := .exc a) rfl (fun ds z => nomatch z), ?_⟩
            cases e5 : fh a (ρ'.set i (.exc a)) with
            | nx ρ2 => rw [e5] at p; exact fun σ2 S2 H2 R2 => p _ _ _ (R2.unset i)
            | bk ρ2 => rw [e5] at p; exact fun σ2 S2 H2 R2 => p _ _ _ (R2.unset i)
            | ct ρ2 => rw [e5] at p; exact fun σ2 S2 H2 R2 => p _ _ _ (R2.unset i)
            | rt d => rw [e5] at p; exact p
            | er y2 ρ2 => rw [e5] at p; exact p.elim
            | st => rw [e5] at p; exact p.elim
          · exact pj.elim
        · subst hb
          exact pm none σ' S' H' R' rfl
/-- try .. except x: -/
theorem s_tryO {l : List (Addr × Bool)} {fh : Es} (hs : X.stack = X.env :: X.outer) (hf : X.env.frame = some X.env.locals) (hc : Names X x c) (tk : Takes X W) (hm : MtOk X.K c l)
    (hb : ∀ (W : WX) (pn : List (Addr × Obj)) (xe : Value → Shared → Prop), Takes (X.tr pn xe) W → PassesOwn (model X.prog X.w) X.A X.env xe → PSs (X.tr pn xe) body (TSt X.K W fb))
    (hsu : ∀ (a : Addr) (oe : Obj) (pn : List (Addr × Obj)), PSs (X.suite a ((a, oe) :: pn)) (b₀ :: suite) (TSt X.K noW fh)) :
    PS X (.Try body [.ExceptHandler (some (.Name x np)) none (b₀ :: suite) pos'] [] [] pos) (TSt X.K W (tryO fb (mtL l) fh)) := by
  refine PS.imp (ps_try_only (tb := fun W => TSt X.K W fb) (ts := fun a cls d => TSt X.K noW fh) hs hf hc tk hb (fun a oe cls d pn hz hd => hsu a oe pn)) fun D σ H q => ?_
  obtain ⟨S0, H0, S, ρ, R, p⟩ := q
  refine ⟨S0, H0, S, ρ, R, ?_⟩
  unfold tryO at p
  cases e : fb ρ with
  | nx ρ' => rw [e] at p; exact p
  | rt d => rw [e] at p; exact p
  | bk ρ' => rw [e] at p; exact p
  | ct ρ' => rw [e] at p; exact p
  | st => rw [e] at p; exact p
  | er y ρ' =>
    rw [e] at p
    intro dd σ' S' H' R' hx
    have p : PostS X.K W S0 H0 D (match mtL l y with
      | some true => noEr (fh ρ')
      | some false => .er y ρ'
      | none => .st) := p
    cases e2 : mtL l y with
    | none => rw [e2] at p; exact p.elim
    | some b =>
      rw [e2] at p
      obtain ⟨C, rfl, e3⟩ := mtL_ok e2
      refine ⟨b, hm _ _ e3, fun hb a ha => ⟨S0, H0, S', ρ', R', ?_⟩, fun hb => ?_⟩
      · subst hb
        have p : PostS X.K W S0 H0 D (noEr (fh ρ')) := p
        cases e5 : fh ρ' with
        | er y2 ρ2 => rw [e5] at p; exact p.elim
        | nx ρ2 => rw [e5] at p; exact p
        | bk ρ2 => rw [e5] at p; exact p
        | ct ρ2 => rw [e5] at p; exact p
        | rt d => rw [e5] at p; exact p
        | st => rw [e5] at p; exact p
      · subst hb
        exact p dd σ' S' H' R' hx
end
/-! isinstance(e, C) of the caught error -/
def isEx (i : Nat) (a : Addr) (k : Bool) : Ev := fun ρ => match ρ[i]? with
  | some (.exc a') => if a' = a then .ok (.bl k) else .st
  | _ => .st
section
variable {X : Cx} {a C0 : Addr} {oe : Obj} {pn : List (Addr × Obj)} {i : Nat} {k : Bool} {W : WX} {n : Str} {p p1 p2 pos : Pos}
theorem t_isEx {K : PySem.W.Frag} {v : V} {u : Value} (hu : ∀ u', RelV v u' → u' = u) (hk : PySem.W.kitOne K (.ref C0) u = some k) {σ : St} {H : Hp} {Q : VK} (h : T K W (isEx i a k) σ H Q) :
    tCB (rIsE K C0 a) (tCons (tVar i) (tCons (tC v) tNil)) σ H Q := by
  obtain ⟨S0, H0, S, ρ, R, q⟩ := h
  unfold isEx at q
  cases e : ρ[i]? with
  | none => rw [e] at q; exact q.elim
  | some s =>
    rw [e] at q
    cases s with
    | exc a' =>
      by_cases ha : a' = a
      · subst ha
        have q : PostD K W S H σ (if a' = a' then .ok (.bl k) else .st) Q := q
        rw [if_pos rfl] at q
        obtain ⟨y, h1, h2⟩ := R.at_ i _ e
        cases h2
        exact ⟨_, h1, v, u, k, rfl, hu, hk, q _ S H (Ext.refl R.sh) (.bl k)⟩
      · have q : PostD K W S H σ (if a' = a then .ok (.bl k) else .st) Q := q
        rw [if_neg ha] at q
        exact q.elim
    | _ => exact q.elim
/-- a class of the module -/
theorem d_isEx {x : Str} {C1 : Addr} (hz : Zc (.ref C0) none oe) (hd : ∃ vs, oe.data = .fields vs) (E0 : ExcC X.K C0) (hm : X.mg "isinstance" = none) (hC : X.mg x = some (.ref C1)) (hk : PySem.W.kitOne X.K (.ref C0) (.ref C1) = some k)
    (hi : PE (X.suite a ((a, oe) :: pn)) (.Name n p1) (tVar i)) (hg : Gl (X.suite a ((a, oe) :: pn)) "isinstance" := by rfl) (hgC : Gl (X.suite a ((a, oe) :: pn)) x := by rfl) (hdb : (x == ("__debug__" : Str)) = false := by decide)
    (h1 : starEach [.Name n p1, .Name x p2] (X.suite a ((a, oe) :: pn)).env = (false, eval (.Name n p1) (X.suite a ((a, oe) :: pn)).env) :: starEach [.Name x p2] (X.suite a ((a, oe) :: pn)).env := by rfl)
    (h2 : starEach [.Name x p2] (X.suite a ((a, oe) :: pn)).env = (false, eval (.Name x p2) (X.suite a ((a, oe) :: pn)).env) :: starEach [] (X.suite a ((a, oe) :: pn)).env := by rfl)
    (hpl : (backTo pos (starEach [.Name x p2] (X.suite a ((a, oe) :: pn)).env)).any (·.1) = false := by rfl) :
    PE (X.suite a ((a, oe) :: pn)) (.Call (.Name "isinstance" p) [.Name n p1, .Name x p2] [] pos) (T X.K W (isEx i a k)) :=
  PE.imp (pe_callB (call_isE E0 hz hd) hg hm (by decide +kernel) (pa_cons hi (pa_cons (pe_glob (v := .ref C1) hgC hC rfl hdb) pa_nil h2) h1) (by decide) (by decide) h1 hpl) fun _ _ _ h => t_isEx (v := .ref C1) (u := .ref C1) (fun u' r => r) hk h
/-- a built-in class -/
theorem d_isExT {T1 : String} (hz : Zc (.ref C0) none oe) (hd : ∃ vs, oe.data = .fields vs) (E0 : ExcC X.K C0) (hm : X.mg "isinstance" = none) (hT : X.mg (Str.ofString T1) = none) (hv : bootBuiltins (Str.ofString T1) = some (.type T1)) (hk : PySem.W.kitOne X.K (.ref C0) (.type T1) = some k)
    (hi : PE (X.suite a ((a, oe) :: pn)) (.Name n p1) (tVar i)) (hg : Gl (X.suite a ((a, oe) :: pn)) "isinstance" := by rfl) (hgT : Gl (X.suite a ((a, oe) :: pn)) (Str.ofString T1) := by rfl) (hn2 : (Str.ofString T1) ≠ "__name__" := by decide) (hd2 : ((Str.ofString T1) == ("__debug__" : Str)) = false := by decide)
    (h1 : starEach [.Name n p1, .Name (Str.ofString T1) p2] (X.suite a ((a, oe) :: pn)).env = (false, eval (.Name n p1) (X.suite a ((a, oe) :: pn)).env) :: starEach [.Name (Str.ofString T1) p2] (X.suite a ((a, oe) :: pn)).env := by rfl)
    (h2 : starEach [.Name (Str.ofString T1) p2] (X.suite a ((a, oe) :: pn)).env = (false, eval (.Name (Str.ofString T1) p2) (X.suite a ((a, oe) :: pn)).env) :: starEach [] (X.suite a ((a, oe) :: pn)).env := by rfl)
    (hpl : (backTo pos (starEach [.Name (Str.ofString T1) p2] (X.suite a ((a, oe) :: pn)).env)).any (·.1) = false := by rfl) :
    PE (X.suite a ((a, oe) :: pn)) (.Call (.Name "isinstance" p) [.Name n p1, .Name (Str.ofString T1) p2] [] pos) (T X.K W (isEx i a k)) :=
  PE.imp (pe_callB (call_isE E0 hz hd) hg hm (by decide +kernel) (pa_cons hi (pa_cons (pe_bltn (v := .ty T1) hgT hT hv rfl hn2 hd2) pa_nil h2) h1) (by decide) (by decide) h1 hpl) fun _ _ _ h => t_isEx (v := .ty T1) (u := .type T1) (fun u' r => r) hk h
end
/-! ### unpacking a tuple or a list -/
def unpDA : D → Option (List D)
  | .tup ds => some ds
  | .lst ds => some ds
  | _ => none
def unp1A (is : List Nat) (ρ : Rho) (d : D) : Out := match (unpDA d).bind fun ds => setAll is ds ρ with
  | some ρ' => .nx ρ'
  | none => .st
def unpAS (is : List Nat) (f : Ev) : Es := fun ρ => (stE f ρ).then ρ (unp1A is ρ)
theorem at_unpA {is : List Nat} {f : Ev} {ρ : Rho} : unpAS is f ρ = (stE f ρ).then ρ (unp1A is ρ) := id rfl
theorem unp1A_tup {is : List Nat} {ds : List D} {ρ : Rho} : unp1A is ρ (.tup ds) = ooS (setAll is ds ρ) := by unfold unp1A ooS unpDA; rfl
theorem unp1A_lst {is : List Nat} {ds : List D} {ρ : Rho} : unp1A is ρ (.lst ds) = ooS (setAll is ds ρ) := by unfold unp1A ooS unpDA; rfl
section
variable {X : Cx} {W : WX} {a : Expr} {f : Ev} {pos : Pos}
theorem s_unpA {is : List Nat} {es : List Expr} {k : Nat} {tp : Pos} (ha : PE X a (T X.K W f)) (hc : X.calm = true) (hg : PGs X es (gsN is))
    (hn : (assignEach es X.env).length = is.length := by rfl) (hst : (assignEach es X.env).findIdx? (·.1) = none := by rfl)
    (hs : swapsWithSole [.Tuple es k tp] a pos.line X.env = pure false := by rfl) (hw : swappedStores [.Tuple es k tp] a X.env = pure none := by rfl)
    (h1 : (assignEach [.Tuple es k tp] X.env).map (·.2) = [assign (.Tuple es k tp) X.env] := by rfl) : PS X (.Assign [.Tuple es k tp] a pos) (TSt X.K W (unpAS is f)) := by
  have g1 := pg_tup (k := k) (pos := tp) hc hg hn hst
  have g2 := pg_lst (k := k) (pos := tp) hc hg hn hst
  have g3 : PG X (.Tuple es k tp) (fun v σ H Q => gTup X.K is.length (gsN is) v σ H Q ∨ gLst X.K is.length (gsN is) v σ H Q) :=
    ⟨fun pins s σ H v u Q I r h => h.elim (fun h => g1.run pins s σ H v u Q I r h) (fun h => g2.run pins s σ H v u Q I r h)⟩
  refine PS.imp (ps_asg ha g3 hs hw h1) fun D σ H q => ?_
  obtain ⟨S0, H0, S, ρ, R, p⟩ := q
  refine t_thenS R p fun d v S' H' ex R' r p => ?_
  have pm : PostS X.K W S0 H0 D (match (unpDA d).bind fun ds => setAll is ds ρ with
    | some ρ' => .nx ρ'
    | none => .st) := p
  cases e : (unpDA d).bind fun ds => setAll is ds ρ with
  | none => rw [e] at pm; exact pm.elim
  | some ρ' =>
    rw [e] at pm
    cases d with
    | tup ds => exact .inl (gU_ok S0 H0 S' H' σ ρ v (.tup ds) ρ' _ R' r e fun σ' R2 => pm σ' S' H' R2)
    | lst ds =>
      have e : setAll is ds ρ = some ρ' := e
      cases r with
      | lst h1 r1 => exact .inr ⟨_, _, rfl, SqL.of (R'.sh _ _ h1), by rw [r1.length, setAll_length e], gsN_ok R' r1 e fun σ' R2 => pm σ' S' H' R2⟩
    | _ => cases e
end
end DL

namespace DL
open PySem L2
local macro_rules
  | `(tactic| simp_arith [$xs,*]) => `(tactic| simp (config := {failIfUnchanged := false}) only [o0, o1, o2, o3, o4, o5, o6, o7, o8, o9, o10, o11, o12, o13, o14, o15, o16, o17, o18, o19, o20, o21, o22, o23, o24, o25, o26, o27, o28, o29, o30, o31, o32, o33, o34, o35, o36, o37, o38, o39, o40, o41, o42, o43, o44, o45, o46, o47, o48, at_seq, at_skip, at_asg, own_new, at_own, at_drop, at_ret, at_retN, rO_own, at_retOwn, at_if, at_brk, at_cnt, at_raise, ooS_some, unp1_tup, at_unp, setAll_nil, setAll_cons, par1_ok, par1_err, at_par2, frz1_own, frz1_v, at_frz, app0_own, at_app, app1_ok, pop0_own, at_pop, clr0_own, at_clr, aug0_int, aug1_int, at_aug, at_for, for_nil, gnx_some, for_cons, at_gN, at_gU,  at_e1, at_e2, at_st, vO_v, vO_own, at_var, at_c, settle_non, settle_bl, settle_int, settle_str, settle_lst, settle_tup, settle_frz, settle_new, add_int, add_str, add_tup, add_lst_lst, add_lst_new, add_lst_bor, add_new_lst, add_new_new, add_new_bor, add_bor_lst, add_bor_new, add_bor_bor, sub_int, mul_r, mul_l, fdiv_p, mod_p, pow_p, neg_int, lt_int, le_int, gt_int, ge_int, is_bl, ni_bl, is_n_non, ni_n_non, is_n_bl, ni_n_bl, is_n_int, ni_n_int, is_n_str, ni_n_str, is_n_lst, ni_n_lst, is_n_tup, ni_n_tup, is_n_new, ni_n_new, is_n_bor, ni_n_bor, items_lst, len_lst, list_lst, tuple_lst, ix_lst, tru_lst, rev_lst, slice_lst, ty_lst, sum_lst, all_lst, any_lst, items_new, len_new, list_new, tuple_new, ix_new, tru_new, rev_new, slice_new, ty_new, sum_new, all_new, any_new, items_bor, len_bor, list_bor, tuple_bor, ix_bor, tru_bor, rev_bor, slice_bor, ty_bor, sum_bor, all_bor, any_bor, len_tup, len_frz, len_str, list_tup, list_frz, tuple_tup, ix_tup, tru_tup, tru_bl, tru_int, tru_non, slice_tup, slice_frz, revT_tup, int_int, int_bl, abs_int, max_int, min_int, blO_bl, ty_non, ty_bl, ty_int, ty_str, ty_tup, at_tst, at_tst0, nB_ok, nB_err, at_notB, at_andB, at_orB, at_andE, at_orE, nE_ok, nE_err, at_notE, at_ifE, at_nilA, at_consA, tupL_ok, lstL_ok, at_tup, at_lst, callL_0, callL_1, callL_2, callL_3, callL_4, callL_5, at_call, at_chK, at_ch2, at_ch0, chR_ok, at_ch, at_isi, obl_some, isi1_at, kit2_t, kit2_f, at_kitT2, slc_ok, at_slice, at_noO, soO_int, at_someO, sq1_tup, sq1_lst, bl1_ok, bl1_err, bl1_st, at_seqI, rg1_int, at_rng1, rg2_int, rg0_ok, at_rng2, lc0_ok, at_lc, wipe_nil, wipe_cons, at_yes, kitT_int_int, kitT_int_bool, kitT_int_str, kitT_int_list, kitT_int_tuple, kitT_int_none, kitT_bool_int, kitT_bool_bool, kitT_bool_str, kitT_bool_list, kitT_bool_tuple, kitT_bool_none, kitT_tuple_int, kitT_tuple_bool, kitT_tuple_str, kitT_tuple_list, kitT_tuple_tuple, kitT_tuple_none, kitT_list_int, kitT_list_bool, kitT_list_str, kitT_list_list, kitT_list_tuple, kitT_list_none, kitT_str_int, kitT_str_bool, kitT_str_str, kitT_str_list, kitT_str_tuple, kitT_str_none, eqD_int, neD_int, eqD_bl, neD_bl, List.map_cons, List.map_nil, List.replicate, List.cons_append, List.nil_append, List.set_cons_zero, List.set_cons_succ, List.getElem?_cons_zero, List.getElem?_cons_succ, List.length_cons, List.length_nil, List.length_map, List.length_range, bind_ok, bind_err, bind_st, ofO_some, ofO_none, then_ok, then_err, then_st, Option.bind_some, Option.bind_none, Option.map_some, Option.map_none, Nat.zero_add, Nat.reduceAdd, Nat.reduceLeDiff, Nat.reduceEqDiff, ite_true, ite_false, if_true, if_false, reduceIte, Bool.not_true, Bool.not_false, Bool.false_eq_true, decide_eq_true_eq, Bool.not_eq_true, Int.reduceLT, Int.reduceLE, Int.reduceNeg, Int.reduceToNat, Int.reducePow, Int.reduceEq, Int.reduceAdd, Int.reduceSub, Int.reduceMul, Nat.reduceLT, decide_true, decide_false, $xs,*])
local macro_rules
  | `(tactic| simp_arith) => `(tactic| simp (config := {failIfUnchanged := false}) only [o0, o1, o2, o3, o4, o5, o6, o7, o8, o9, o10, o11, o12, o13, o14, o15, o16, o17, o18, o19, o20, o21, o22, o23, o24, o25, o26, o27, o28, o29, o30, o31, o32, o33, o34, o35, o36, o37, o38, o39, o40, o41, o42, o43, o44, o45, o46, o47, o48, at_seq, at_skip, at_asg, own_new, at_own, at_drop, at_ret, at_retN, rO_own, at_retOwn, at_if, at_brk, at_cnt, at_raise, ooS_some, unp1_tup, at_unp, setAll_nil, setAll_cons, par1_ok, par1_err, at_par2, frz1_own, frz1_v, at_frz, app0_own, at_app, app1_ok, pop0_own, at_pop, clr0_own, at_clr, aug0_int, aug1_int, at_aug, at_for, for_nil, gnx_some, for_cons, at_gN, at_gU,  at_e1, at_e2, at_st, vO_v, vO_own, at_var, at_c, settle_non, settle_bl, settle_int, settle_str, settle_lst, settle_tup, settle_frz, settle_new, add_int, add_str, add_tup, add_lst_lst, add_lst_new, add_lst_bor, add_new_lst, add_new_new, add_new_bor, add_bor_lst, add_bor_new, add_bor_bor, sub_int, mul_r, mul_l, fdiv_p, mod_p, pow_p, neg_int, lt_int, le_int, gt_int, ge_int, is_bl, ni_bl, is_n_non, ni_n_non, is_n_bl, ni_n_bl, is_n_int, ni_n_int, is_n_str, ni_n_str, is_n_lst, ni_n_lst, is_n_tup, ni_n_tup, is_n_new, ni_n_new, is_n_bor, ni_n_bor, items_lst, len_lst, list_lst, tuple_lst, ix_lst, tru_lst, rev_lst, slice_lst, ty_lst, sum_lst, all_lst, any_lst, items_new, len_new, list_new, tuple_new, ix_new, tru_new, rev_new, slice_new, ty_new, sum_new, all_new, any_new, items_bor, len_bor, list_bor, tuple_bor, ix_bor, tru_bor, rev_bor, slice_bor, ty_bor, sum_bor, all_bor, any_bor, len_tup, len_frz, len_str, list_tup, list_frz, tuple_tup, ix_tup, tru_tup, tru_bl, tru_int, tru_non, slice_tup, slice_frz, revT_tup, int_int, int_bl, abs_int, max_int, min_int, blO_bl, ty_non, ty_bl, ty_int, ty_str, ty_tup, at_tst, at_tst0, nB_ok, nB_err, at_notB, at_andB, at_orB, at_andE, at_orE, nE_ok, nE_err, at_notE, at_ifE, at_nilA, at_consA, tupL_ok, lstL_ok, at_tup, at_lst, callL_0, callL_1, callL_2, callL_3, callL_4, callL_5, at_call, at_chK, at_ch2, at_ch0, chR_ok, at_ch, at_isi, obl_some, isi1_at, kit2_t, kit2_f, at_kitT2, slc_ok, at_slice, at_noO, soO_int, at_someO, sq1_tup, sq1_lst, bl1_ok, bl1_err, bl1_st, at_seqI, rg1_int, at_rng1, rg2_int, rg0_ok, at_rng2, lc0_ok, at_lc, wipe_nil, wipe_cons, at_yes, kitT_int_int, kitT_int_bool, kitT_int_str, kitT_int_list, kitT_int_tuple, kitT_int_none, kitT_bool_int, kitT_bool_bool, kitT_bool_str, kitT_bool_list, kitT_bool_tuple, kitT_bool_none, kitT_tuple_int, kitT_tuple_bool, kitT_tuple_str, kitT_tuple_list, kitT_tuple_tuple, kitT_tuple_none, kitT_list_int, kitT_list_bool, kitT_list_str, kitT_list_list, kitT_list_tuple, kitT_list_none, kitT_str_int, kitT_str_bool, kitT_str_str, kitT_str_list, kitT_str_tuple, kitT_str_none, eqD_int, neD_int, eqD_bl, neD_bl, List.map_cons, List.map_nil, List.replicate, List.cons_append, List.nil_append, List.set_cons_zero, List.set_cons_succ, List.getElem?_cons_zero, List.getElem?_cons_succ, List.length_cons, List.length_nil, List.length_map, List.length_range, bind_ok, bind_err, bind_st, ofO_some, ofO_none, then_ok, then_err, then_st, Option.bind_some, Option.bind_none, Option.map_some, Option.map_none, Nat.zero_add, Nat.reduceAdd, Nat.reduceLeDiff, Nat.reduceEqDiff, ite_true, ite_false, if_true, if_false, reduceIte, Bool.not_true, Bool.not_false, Bool.false_eq_true, decide_eq_true_eq, Bool.not_eq_true, Int.reduceLT, Int.reduceLE, Int.reduceNeg, Int.reduceToNat, Int.reducePow, Int.reduceEq, Int.reduceAdd, Int.reduceSub, Int.reduceMul, Nat.reduceLT, decide_true, decide_false])

/-! ### a comprehension over a known list -/
def lcD (r1 : Res Bool) (r2 : Res D) (rest : Res (List D)) : Res (List D) := (sure r1).bind fun k => if k = true then (sure r2).bind fun x => rest.bind fun xs => .ok (x :: xs) else rest
def lcC (o : Option Rho) (t : Eb) (a : Ev) (rest : Res (List D)) : Res (List D) := match o with
  | none => .st
  | some ρ1 => lcD (t ρ1) (stE a ρ1) rest
section
variable {G : D → Rho → Option Rho} {t : Eb} {a : Ev} {ρ : Rho} {d : D} {ds : List D} {rest : Res (List D)} {r2 : Res D} {x : D}
theorem lc_nil : lcO G t a ρ [] = .ok [] := id rfl
theorem lc_cons : lcO G t a ρ (d :: ds) = lcC (G d ρ) t a (lcO G t a ρ ds) := by
  unfold lcC lcD
  rw [lcO]
  all_goals (cases G d ρ <;> rfl)
theorem lcC_some : lcC (some ρ) t a rest = lcD (t ρ) (stE a ρ) rest := id rfl
theorem lcD_tt : lcD (.ok true) (.ok x) (.ok ds) = .ok (x :: ds) := id rfl
theorem lcD_ff : lcD (.ok false) r2 rest = rest := id rfl
end

/-! ### circles -/
structure C4 where
  b : Int
  c : Int
  x : Int
  y : Int
abbrev C4.d (p : C4) : D := .tup [.int p.b, .int p.c, .int p.x, .int p.y]
def C4.Q (p q : C4) : Int := 2 * (p.x * q.x + p.y * q.y) - p.b * q.c - p.c * q.b
def C4.le (M : Int) (p : C4) : Prop := (-M ≤ p.b ∧ p.b ≤ M) ∧ (-M ≤ p.c ∧ p.c ≤ M) ∧ (-M ≤ p.x ∧ p.x ≤ M) ∧ (-M ≤ p.y ∧ p.y ≤ M)
theorem C4.le.mono {M N : Int} {p : C4} (h : p.le M) (k : M ≤ N) : p.le N := by
  unfold C4.le at *
  omega
/-- four circles that touch -/
structure TG (p q r s : C4) : Prop where
  pp : p.Q p = 2
  qq : q.Q q = 2
  rr : r.Q r = 2
  ss : s.Q s = 2
  pq : p.Q q = -2
  pr : p.Q r = -2
  ps : p.Q s = -2
  qr : q.Q r = -2
  qs : q.Q s = -2
  rs : r.Q s = -2
theorem C4.Qc (p q : C4) : p.Q q = q.Q p := by unfold C4.Q; grind
theorem TG.rot {p q r s : C4} (h : TG p q r s) : TG q r s p := ⟨h.qq, h.rr, h.ss, h.pp, h.qr, h.qs, by rw [C4.Qc]; exact h.pq, h.rs, by rw [C4.Qc]; exact h.pr, by rw [C4.Qc]; exact h.ps⟩
theorem TG.rev {p q r s : C4} (h : TG p q r s) : TG s r q p := ⟨h.ss, h.rr, h.qq, h.pp, by rw [C4.Qc]; exact h.rs, by rw [C4.Qc]; exact h.qs, by rw [C4.Qc]; exact h.ps, by rw [C4.Qc]; exact h.qr, by rw [C4.Qc]; exact h.pr, by rw [C4.Qc]; exact h.pq⟩
/-- a change that keeps the form -/
def Keeps (τ : C4 → C4) : Prop := ∀ p q : C4, (τ p).Q (τ q) = p.Q q
theorem TG.map {p q r s : C4} {τ : C4 → C4} (k : Keeps τ) (h : TG p q r s) : TG (τ p) (τ q) (τ r) (τ s) :=
  ⟨by rw [k]; exact h.pp, by rw [k]; exact h.qq, by rw [k]; exact h.rr, by rw [k]; exact h.ss, by rw [k]; exact h.pq, by rw [k]; exact h.pr, by rw [k]; exact h.ps, by rw [k]; exact h.qr, by rw [k]; exact h.qs, by rw [k]; exact h.rs⟩
def C4.oth (p q r s : C4) : C4 := ⟨2 * (p.b + q.b + r.b + s.b) - 3 * p.b, 2 * (p.c + q.c + r.c + s.c) - 3 * p.c, 2 * (p.x + q.x + r.x + s.x) - 3 * p.x, 2 * (p.y + q.y + r.y + s.y) - 3 * p.y⟩
theorem TG.oth {p q r s : C4} (h : TG p q r s) : TG (C4.oth p q r s) q r s := by
  have e : ∀ z : C4, (C4.oth p q r s).Q z = 2 * (q.Q z + r.Q z + s.Q z) - p.Q z := by
    intro z
    unfold C4.Q C4.oth
    simp only
    grind
  have e2 : ∀ z : C4, z.Q (C4.oth p q r s) = 2 * (z.Q q + z.Q r + z.Q s) - z.Q p := by
    intro z
    rw [C4.Qc, e, C4.Qc q z, C4.Qc r z, C4.Qc s z, C4.Qc p z]
  have c := C4.Qc
  obtain ⟨h1, h2, h3, h4, h5, h6, h7, h8, h9, h10⟩ := h
  refine ⟨?_, h2, h3, h4, ?_, ?_, ?_, h8, h9, h10⟩
  · rw [e, e2, e2, e2, e2]
    have := c q p; have := c r p; have := c s p; have := c r q; have := c s q; have := c s r
    omega
  · rw [e]
    have := c r q; have := c s q
    omega
  · rw [e]
    have := c s r
    omega
  · rw [e]
    omega
def mvM (s t : Int) (p : C4) : C4 := ⟨p.b, p.c + 2 * (p.x * s + p.y * t) + p.b * (s * s + t * t), p.x + p.b * s, p.y + p.b * t⟩
theorem mv_keeps (s t : Int) : Keeps (mvM s t) := by
  intro p q
  unfold C4.Q mvM
  simp only
  grind
def rotM (p : C4) : C4 := ⟨p.b, p.c, 0 - p.y, p.x⟩
def mirM (p : C4) : C4 := ⟨p.b, p.c, 0 - p.x, p.y⟩
theorem rot_keeps : Keeps rotM := by
  intro p q
  unfold C4.Q rotM
  simp only
  grind
theorem mir_keeps : Keeps mirM := by
  intro p q
  unfold C4.Q mirM
  simp only
  grind
theorem Keeps.comp {f g : C4 → C4} (hf : Keeps f) (hg : Keeps g) : Keeps (fun p => f (g p)) := fun p q => by rw [hf, hg]
theorem keeps_id : Keeps (fun p => p) := fun _ _ => rfl
def mvB : Es := (seqS (unpAS [3, 4, 5, 6] (varE 0))
  (retS (tupE (consA (varE 3) (consA (e2 addD (e2 addD (varE 4) (e2 mulD (cE (.int 2)) (e2 addD (e2 mulD (varE 5) (varE 1)) (e2 mulD (varE 6) (varE 2))))) (e2 mulD (varE 3) (e2 addD (e2 mulD (varE 1) (varE 1)) (e2 mulD (varE 2) (varE 2))))) (consA (e2 addD (varE 5) (e2 mulD (varE 3) (varE 1))) (consA (e2 addD (varE 6) (e2 mulD (varE 3) (varE 2))) nilA)))))))
theorem mv_ok (p : C4) (s t : Int) (hs1 : -1009 ≤ s) (hs2 : s ≤ 1009) (ht1 : -1009 ≤ t) (ht2 : t ≤ 1009) (hb : p.le 1000000) : runF 4 mvB [p.d, .int s, .int t] = .ok (mvM s t p).d := by
  obtain ⟨b, c, x, y⟩ := p
  unfold C4.le at hb
  simp only at hb
  have b1 : -18446744073709551616 < s := by omega
  have b2 : s < 18446744073709551616 := by omega
  have b3 : -18446744073709551616 < t := by omega
  have b4 : t < 18446744073709551616 := by omega
  have b5 : -18446744073709551616 < b := by omega
  have b6 : b < 18446744073709551616 := by omega
  simp_arith [at_run, mvB, at_unpA, unp1A_tup, b1, b2, b3, b4, b5, b6, mvM, C4.d]

theorem mulbd {x s A B : Int} (h1 : -A ≤ x) (h2 : x ≤ A) (h3 : -B ≤ s) (h4 : s ≤ B) : -(A * B) ≤ x * s ∧ x * s ≤ A * B := by
  have hA : x.natAbs ≤ A.natAbs := by omega
  have hB : s.natAbs ≤ B.natAbs := by omega
  have h := Nat.mul_le_mul hA hB
  rw [← Int.natAbs_mul, ← Int.natAbs_mul] at h
  have h0 : 0 ≤ A * B := Int.mul_nonneg (by omega) (by omega)
  omega
theorem mv_le {s t : Int} {p : C4} (hs1 : -1009 ≤ s) (hs2 : s ≤ 1009) (ht1 : -1009 ≤ t) (ht2 : t ≤ 1009) (hb : p.le 2000) : (mvM s t p).le 5000000000 := by
  obtain ⟨b, c, x, y⟩ := p
  unfold C4.le at hb
  simp only at hb
  obtain ⟨⟨h1, h2⟩, ⟨h3, h4⟩, ⟨h5, h6⟩, h7, h8⟩ := hb
  have a1 := mulbd h5 h6 hs1 hs2
  have a2 := mulbd h7 h8 ht1 ht2
  have a3 := mulbd hs1 hs2 hs1 hs2
  have a4 := mulbd ht1 ht2 ht1 ht2
  have a5 : -(2000 * 2036162) ≤ b * (s * s + t * t) ∧ b * (s * s + t * t) ≤ 2000 * 2036162 := mulbd h1 h2 (by omega) (by omega)
  have a6 := mulbd h1 h2 hs1 hs2
  have a7 := mulbd h1 h2 ht1 ht2
  unfold C4.le mvM
  simp only
  omega
def ldL : Es := (par2S 9 10 (consA (e2 subD (cE (.int 0)) (varE 10)) (consA (varE 9) nilA)))
def ldB (mv : List D → Res D) : Es := (seqS (unpAS [7, 8, 9, 10] (varE 2))
  (seqS (forS (rng1I (e2 modD (e1 intD (e2 ixD (varE 0) (varE 1))) (cE (.int 4)))) (gN 3) ldL)
  (seqS (ifS (tst0 (e2 eqD (e2 modD (e2 fdivD (e1 intD (e2 ixD (varE 0) (varE 1))) (cE (.int 4))) (cE (.int 2))) (cE (.int 1))))
  (asgS 9 (e2 subD (cE (.int 0)) (varE 9)))
  skipS)
  (seqS (asgS 4 (e2 ixD (lstE (consA (cE (.int 0)) (consA (cE (.int 9)) (consA (cE (.int 1009)) nilA)))) (e2 modD (e1 intD (e2 ixD (varE 0) (e2 addD (varE 1) (cE (.int 1))))) (cE (.int 3)))))
  (seqS (asgS 5 (e2 subD (e2 modD (e1 intD (e2 ixD (varE 0) (e2 addD (varE 1) (cE (.int 2))))) (e2 addD (e2 mulD (cE (.int 2)) (varE 4)) (cE (.int 1)))) (varE 4)))
  (seqS (asgS 6 (e2 subD (e2 modD (e1 intD (e2 ixD (varE 0) (e2 addD (varE 1) (cE (.int 3))))) (e2 addD (e2 mulD (cE (.int 2)) (varE 4)) (cE (.int 1)))) (varE 4)))
  (retS (callE 3 mv (consA (tupE (consA (varE 7) (consA (varE 8) (consA (varE 9) (consA (varE 10) nilA))))) (consA (varE 5) (consA (varE 6) nilA)))))))))))
def rotN : Nat → C4 → C4
  | 0, p => p
  | n + 1, p => rotN n (rotM p)
theorem rotN_keeps : ∀ n, Keeps (rotN n)
  | 0 => keeps_id
  | n + 1 => fun p q => by
    show (rotN n (rotM p)).Q (rotN n (rotM q)) = _
    rw [rotN_keeps n, rot_keeps]
theorem rotN_le {M : Int} : ∀ (n : Nat) {p : C4}, p.le M → (rotN n p).le M
  | 0, _, h => h
  | n + 1, p, h => rotN_le n (by unfold C4.le at *; unfold rotM; simp only; omega)
theorem ld_loop (a0 a1 a2 a4 a5 a6 : Slot) : ∀ (n : Nat) (lo : Int) (p : C4) (k : Slot), ∃ k', forO (gN 3) ldL (rngI lo n) [a0, a1, a2, k, a4, a5, a6, .v (.int p.b), .v (.int p.c), .v (.int p.x), .v (.int p.y)] =
    .nx [a0, a1, a2, k', a4, a5, a6, .v (.int (rotN n p).b), .v (.int (rotN n p).c), .v (.int (rotN n p).x), .v (.int (rotN n p).y)]
  | 0, lo, p, k => ⟨k, rfl⟩
  | n + 1, lo, p, k => by
    obtain ⟨k', h⟩ := ld_loop a0 a1 a2 a4 a5 a6 n (lo + 1) (rotM p) (.v (.int lo))
    refine ⟨k', ?_⟩
    have e : rotN (n + 1) p = rotN n (rotM p) := rfl
    rw [e, ← h, rngI_succ]
    simp_arith [ldL, rotM]
def mirK (k : Bool) (p : C4) : C4 := if k then mirM p else p
theorem ld_ok {mv : List D → Res D} (hmv : ∀ (p : C4) (s t : Int), -1009 ≤ s → s ≤ 1009 → -1009 ≤ t → t ≤ 1009 → p.le 1000000 → mv [p.d, .int s, .int t] = .ok (mvM s t p).d) {L : List Int} {a : Int} (h0 : 0 ≤ a) (h1 : a + 3 < L.length) :
    ∃ τ : C4 → C4, Keeps τ ∧ ∀ p : C4, p.le 2000 → (τ p).le 5000000000 ∧ runF 8 (ldB mv) [.lst (il L), .int a, p.d] = .ok (τ p).d := by
  have i0 := atI_ints (l := L) (i := a) h0 (by omega)
  have i1 := atI_ints (l := L) (i := a + 1) (by omega) (by omega)
  have i2 := atI_ints (l := L) (i := a + 2) (by omega) (by omega)
  have i3 := atI_ints (l := L) (i := a + 3) (by omega) (by omega)
  generalize L.getD a.toNat 0 = n0 at i0
  generalize L.getD (a + 1).toNat 0 = n1 at i1
  generalize L.getD (a + 2).toNat 0 = n2 at i2
  generalize L.getD (a + 3).toNat 0 = n3 at i3
  have m0 := Int.emod_nonneg n0 (show (4 : Int) ≠ 0 by decide)
  have m1 := Int.emod_lt_of_pos n0 (show (0 : Int) < 4 by decide)
  have hM : ∃ M : Int, L2.atI [D.int 0, D.int 9, D.int 1009] (n1 % 3) = some (.int M) ∧ 0 ≤ M ∧ M ≤ 1009 := by
    have h : n1 % 3 = 0 ∨ n1 % 3 = 1 ∨ n1 % 3 = 2 := by omega
    rcases h with h | h | h <;> rw [h]
    · exact ⟨0, rfl, by decide, by decide⟩
    · exact ⟨9, rfl, by decide, by decide⟩
    · exact ⟨1009, rfl, by decide, by decide⟩
  obtain ⟨M, hM, M0, M1⟩ := hM
  have P : 0 < 2 * M + 1 := by omega
  have s0 := Int.emod_nonneg n2 (show 2 * M + 1 ≠ 0 by omega)
  have s1 := Int.emod_lt_of_pos n2 P
  have t0 := Int.emod_nonneg n3 (show 2 * M + 1 ≠ 0 by omega)
  have t1 := Int.emod_lt_of_pos n3 P
  refine ⟨fun p => mvM (n2 % (2 * M + 1) - M) (n3 % (2 * M + 1) - M) (mirK (n0 / 4 % 2 == 1) (rotN (n0 % 4).toNat p)), fun p q => ?_, fun p hp => ⟨?_, ?_⟩⟩
  · rw [mv_keeps]
    unfold mirK
    split
    · rw [mir_keeps, rotN_keeps]
    · rw [rotN_keeps]
  · refine mv_le (by omega) (by omega) (by omega) (by omega) ?_
    have := rotN_le (n0 % 4).toNat hp
    unfold mirK
    split
    · unfold C4.le at *; unfold mirM; simp only; omega
    · exact this
  · show runF 8 (ldB mv) [.lst (il L), .int a, p.d] = .ok (mvM (n2 % (2 * M + 1) - M) (n3 % (2 * M + 1) - M) (mirK (n0 / 4 % 2 == 1) (rotN (n0 % 4).toNat p))).d
    have hr := rotN_le (n0 % 4).toNat hp
    obtain ⟨k', hk⟩ := ld_loop (.v (.lst (il L))) (.v (.int a)) (.v p.d) .un .un .un (n0 % 4).toNat 0 p .un
    generalize rotN (n0 % 4).toNat p = r at hr hk
    have b1 : -4611686018427387904 ≤ n0 % 4 := by omega
    have b2 : n0 % 4 < 4611686018427387904 := by omega
    have b3 : (0 : Int) < 4 := by decide
    have hl : ([D.int 0, D.int 9, D.int 1009] : List D).length ≤ 16777216 := by decide
    unfold C4.d at hk
    by_cases h : n0 / 4 % 2 = 1
    · have e : (n0 / 4 % 2 == 1) = true := by simp [h]
      have hf := hmv (mirM r) (n2 % (2 * M + 1) - M) (n3 % (2 * M + 1) - M) (by omega) (by omega) (by omega) (by omega) (by unfold C4.le at *; unfold mirM; simp only; omega)
      have e2 : mirK true r = mirM r := rfl
      unfold C4.d mirM at hf
      simp only at hf
      simp_arith [at_run, ldB, at_unpA, unp1A_tup, C4.d, i0, b1, b2, b3, hk, e, i1, i2, i3, hM, P, hf, e2, mirM]
    · have e : (n0 / 4 % 2 == 1) = false := by simp [h]
      have hf := hmv r (n2 % (2 * M + 1) - M) (n3 % (2 * M + 1) - M) (by omega) (by omega) (by omega) (by omega) (by unfold C4.le at *; omega)
      have e2 : mirK false r = r := rfl
      unfold C4.d at hf
      simp_arith [at_run, ldB, at_unpA, unp1A_tup, C4.d, i0, b1, b2, b3, hk, e, i1, i2, i3, hM, P, hf, e2]

/-! the given kinds -/
theorem at5 {a b c d : D} {n : Int} (h0 : 0 ≤ n) (h1 : n < 4) : ∃ x, L2.atI [a, b, c, d] n = some x ∧ ((n = 0 ∧ x = a) ∨ (n = 1 ∧ x = b) ∨ (n = 2 ∧ x = c) ∨ (n = 3 ∧ x = d)) := by
  have h : n = 0 ∨ n = 1 ∨ n = 2 ∨ n = 3 := by omega
  rcases h with h | h | h | h <;> subst h
  · exact ⟨_, rfl, .inl ⟨rfl, rfl⟩⟩
  · exact ⟨_, rfl, .inr (.inl ⟨rfl, rfl⟩)⟩
  · exact ⟨_, rfl, .inr (.inr (.inl ⟨rfl, rfl⟩))⟩
  · exact ⟨_, rfl, .inr (.inr (.inr ⟨rfl, rfl⟩))⟩
def gvB : Es := (seqS (asgS 1 (e2 modD (e1 intD (varE 0)) (cE (.int 7))))
  (seqS (ifS (tst0 (e2 eqD (varE 1) (cE (.int 4))))
  (retS (lstE (consA (tupE (consA (e1 negD (cE (.int 3))) (consA (cE (.int 0)) (consA (cE (.int 1)) (consA (cE (.int 0)) nilA))))) (consA (tupE (consA (cE (.int 5)) (consA (cE (.int 0)) (consA (e1 negD (cE (.int 1))) (consA (cE (.int 0)) nilA))))) (consA (tupE (consA (cE (.int 8)) (consA (cE (.int 2)) (consA (e1 negD (cE (.int 4))) (consA (cE (.int 1)) nilA))))) (consA (tupE (consA (cE (.int 8)) (consA (cE (.int 2)) (consA (e1 negD (cE (.int 4))) (consA (e1 negD (cE (.int 1))) nilA))))) nilA))))))
  skipS)
  (seqS (ifS (tst0 (e2 eqD (varE 1) (cE (.int 5))))
  (retS (lstE (consA (tupE (consA (cE (.int 0)) (consA (cE (.int 2)) (consA (cE (.int 0)) (consA (cE (.int 1)) nilA))))) (consA (tupE (consA (cE (.int 0)) (consA (cE (.int 2)) (consA (cE (.int 0)) (consA (e1 negD (cE (.int 1))) nilA))))) (consA (tupE (consA (cE (.int 1)) (consA (e1 negD (cE (.int 1))) (consA (cE (.int 0)) (consA (cE (.int 0)) nilA))))) (consA (tupE (consA (cE (.int 1)) (consA (cE (.int 3)) (consA (cE (.int 2)) (consA (cE (.int 0)) nilA))))) nilA))))))
  skipS)
  (seqS (ifS (tst0 (e2 eqD (varE 1) (cE (.int 6))))
  (retS (lstE (consA (tupE (consA (cE (.int 0)) (consA (cE (.int 1)) (consA (cE (.int 0)) (consA (cE (.int 1)) nilA))))) (consA (tupE (consA (cE (.int 0)) (consA (cE (.int 1)) (consA (cE (.int 0)) (consA (e1 negD (cE (.int 1))) nilA))))) (consA (tupE (consA (cE (.int 2)) (consA (cE (.int 0)) (consA (cE (.int 1)) (consA (cE (.int 0)) nilA))))) (consA (tupE (consA (cE (.int 2)) (consA (cE (.int 4)) (consA (cE (.int 3)) (consA (cE (.int 0)) nilA))))) nilA))))))
  skipS)
  (seqS (asgS 2 (e2 ixD (lstE (consA (cE (.int 0)) (consA (cE (.int 1)) (consA (cE (.int 2)) (consA (e2 addD (cE (.int 1)) (e2 modD (e2 fdivD (e1 intD (varE 0)) (cE (.int 7))) (cE (.int 40)))) nilA))))) (varE 1)))
  (seqS (asgS 3 (e2 mulD (varE 2) (e2 addD (varE 2) (cE (.int 1)))))
  (retS (lstE (consA (tupE (consA (e2 subD (cE (.int 0)) (varE 2)) (consA (cE (.int 0)) (consA (cE (.int 1)) (consA (cE (.int 0)) nilA))))) (consA (tupE (consA (e2 addD (varE 2) (cE (.int 1))) (consA (cE (.int 0)) (consA (e1 negD (cE (.int 1))) (consA (cE (.int 0)) nilA))))) (consA (tupE (consA (varE 3) (consA (cE (.int 4)) (consA (e2 subD (e2 subD (cE (.int 0)) (e2 mulD (cE (.int 2)) (varE 2))) (cE (.int 1))) (consA (cE (.int 0)) nilA))))) (consA (tupE (consA (e2 addD (varE 3) (cE (.int 1))) (consA (cE (.int 4)) (consA (e2 subD (e2 subD (cE (.int 0)) (e2 mulD (cE (.int 2)) (varE 2))) (cE (.int 1))) (consA (cE (.int 2)) nilA))))) nilA))))))))))))
def four4 (p q r s : C4) : D := .lst [p.d, q.d, r.d, s.d]
theorem gv_ok (n : Int) : ∃ p q r s : C4, runF 3 gvB [.int n] = .ok (.lst [p.d, q.d, r.d, s.d]) ∧ TG p q r s ∧ p.le 2000 ∧ q.le 2000 ∧ r.le 2000 ∧ s.le 2000 := by
  have h7 : (0 : Int) < 7 := by decide
  have m0 := Int.emod_nonneg n (show (7 : Int) ≠ 0 by decide)
  have m1 := Int.emod_lt_of_pos n h7
  generalize hk : n % 7 = k at m0 m1
  by_cases h4 : k = 4
  · refine ⟨⟨-3, 0, 1, 0⟩, ⟨5, 0, -1, 0⟩, ⟨8, 2, -4, 1⟩, ⟨8, 2, -4, -1⟩, ?_, ?_, ?_⟩
    · have e : (k == 4) = true := by simp [h4]
      simp_arith [at_run, gvB, h7, hk, e]
    · constructor <;> decide
    · unfold C4.le; decide
  have e4 : (k == 4) = false := by simp [h4]
  by_cases h5 : k = 5
  · refine ⟨⟨0, 2, 0, 1⟩, ⟨0, 2, 0, -1⟩, ⟨1, -1, 0, 0⟩, ⟨1, 3, 2, 0⟩, ?_, ?_, ?_⟩
    · have e : (k == 5) = true := by simp [h5]
      simp_arith [at_run, gvB, h7, hk, e, e4]
    · constructor <;> decide
    · unfold C4.le; decide
  have e5 : (k == 5) = false := by simp [h5]
  by_cases h6 : k = 6
  · refine ⟨⟨0, 1, 0, 1⟩, ⟨0, 1, 0, -1⟩, ⟨2, 0, 1, 0⟩, ⟨2, 4, 3, 0⟩, ?_, ?_, ?_⟩
    · have e : (k == 6) = true := by simp [h6]
      simp_arith [at_run, gvB, h7, hk, e, e4, e5]
    · constructor <;> decide
    · unfold C4.le; decide
  have e6 : (k == 6) = false := by simp [h6]
  have q0 := Int.emod_nonneg (n / 7) (show (40 : Int) ≠ 0 by decide)
  have q1 := Int.emod_lt_of_pos (n / 7) (show (0 : Int) < 40 by decide)
  have h40 : (0 : Int) < 40 := by decide
  have hN : ∃ N : Int, L2.atI [D.int 0, D.int 1, D.int 2, D.int (1 + n / 7 % 40)] k = some (.int N) ∧ 0 ≤ N ∧ N ≤ 41 := by
    obtain ⟨x, hx, h | h | h | h⟩ := at5 (a := D.int 0) (b := D.int 1) (c := D.int 2) (d := D.int (1 + n / 7 % 40)) (n := k) m0 (by omega)
    · exact ⟨0, by rw [hx, h.2], by omega⟩
    · exact ⟨1, by rw [hx, h.2], by omega⟩
    · exact ⟨2, by rw [hx, h.2], by omega⟩
    · exact ⟨_, by rw [hx, h.2], by omega⟩
  obtain ⟨N, hN, N0, N1⟩ := hN
  have ar := mulbd (x := N) (s := N + 1) (A := 41) (B := 42) (by omega) (by omega) (by omega) (by omega)
  have ar0 : 0 ≤ N * (N + 1) := Int.mul_nonneg N0 (by omega)
  have N2 : N < 18446744073709551616 := by omega
  have N3 : -18446744073709551616 < N := by omega
  refine ⟨⟨0 - N, 0, 1, 0⟩, ⟨N + 1, 0, -1, 0⟩, ⟨N * (N + 1), 4, 0 - 2 * N - 1, 0⟩, ⟨N * (N + 1) + 1, 4, 0 - 2 * N - 1, 2⟩, ?_, ?_, ?_⟩
  · simp_arith [at_run, gvB, h7, hk, e4, e5, e6, h40, hN, N2, N3]
  · constructor <;> unfold C4.Q <;> simp only <;> grind
  · unfold C4.le; simp only; omega
end DL

namespace DL
open PySem L2
local macro_rules
  | `(tactic| simp_arith [$xs,*]) => `(tactic| simp (config := {failIfUnchanged := false}) only [o0, o1, o2, o3, o4, o5, o6, o7, o8, o9, o10, o11, o12, o13, o14, o15, o16, o17, o18, o19, o20, o21, o22, o23, o24, o25, o26, o27, o28, o29, o30, o31, o32, o33, o34, o35, o36, o37, o38, o39, o40, o41, o42, o43, o44, o45, o46, o47, o48, at_seq, at_skip, at_asg, own_new, at_own, at_drop, at_ret, at_retN, rO_own, at_retOwn, at_if, at_brk, at_cnt, at_raise, ooS_some, unp1_tup, at_unp, setAll_nil, setAll_cons, par1_ok, par1_err, at_par2, frz1_own, frz1_v, at_frz, app0_own, at_app, app1_ok, pop0_own, at_pop, clr0_own, at_clr, aug0_int, aug1_int, at_aug, at_for, for_nil, gnx_some, for_cons, at_gN, at_gU,  at_e1, at_e2, at_st, vO_v, vO_own, at_var, at_c, settle_non, settle_bl, settle_int, settle_str, settle_lst, settle_tup, settle_frz, settle_new, add_int, add_str, add_tup, add_lst_lst, add_lst_new, add_lst_bor, add_new_lst, add_new_new, add_new_bor, add_bor_lst, add_bor_new, add_bor_bor, sub_int, mul_r, mul_l, fdiv_p, mod_p, pow_p, neg_int, lt_int, le_int, gt_int, ge_int, is_bl, ni_bl, is_n_non, ni_n_non, is_n_bl, ni_n_bl, is_n_int, ni_n_int, is_n_str, ni_n_str, is_n_lst, ni_n_lst, is_n_tup, ni_n_tup, is_n_new, ni_n_new, is_n_bor, ni_n_bor, items_lst, len_lst, list_lst, tuple_lst, ix_lst, tru_lst, rev_lst, slice_lst, ty_lst, sum_lst, all_lst, any_lst, items_new, len_new, list_new, tuple_new, ix_new, tru_new, rev_new, slice_new, ty_new, sum_new, all_new, any_new, items_bor, len_bor, list_bor, tuple_bor, ix_bor, tru_bor, rev_bor, slice_bor, ty_bor, sum_bor, all_bor, any_bor, len_tup, len_frz, len_str, list_tup, list_frz, tuple_tup, ix_tup, tru_tup, tru_bl, tru_int, tru_non, slice_tup, slice_frz, revT_tup, int_int, int_bl, abs_int, max_int, min_int, blO_bl, ty_non, ty_bl, ty_int, ty_str, ty_tup, at_tst, at_tst0, nB_ok, nB_err, at_notB, at_andB, at_orB, at_andE, at_orE, nE_ok, nE_err, at_notE, at_ifE, at_nilA, at_consA, tupL_ok, lstL_ok, at_tup, at_lst, callL_0, callL_1, callL_2, callL_3, callL_4, callL_5, at_call, at_chK, at_ch2, at_ch0, chR_ok, at_ch, at_isi, obl_some, isi1_at, kit2_t, kit2_f, at_kitT2, slc_ok, at_slice, at_noO, soO_int, at_someO, sq1_tup, sq1_lst, bl1_ok, bl1_err, bl1_st, at_seqI, rg1_int, at_rng1, rg2_int, rg0_ok, at_rng2, lc0_ok, at_lc, wipe_nil, wipe_cons, at_yes, kitT_int_int, kitT_int_bool, kitT_int_str, kitT_int_list, kitT_int_tuple, kitT_int_none, kitT_bool_int, kitT_bool_bool, kitT_bool_str, kitT_bool_list, kitT_bool_tuple, kitT_bool_none, kitT_tuple_int, kitT_tuple_bool, kitT_tuple_str, kitT_tuple_list, kitT_tuple_tuple, kitT_tuple_none, kitT_list_int, kitT_list_bool, kitT_list_str, kitT_list_list, kitT_list_tuple, kitT_list_none, kitT_str_int, kitT_str_bool, kitT_str_str, kitT_str_list, kitT_str_tuple, kitT_str_none, eqD_int, neD_int, eqD_bl, neD_bl, List.map_cons, List.map_nil, List.replicate, List.cons_append, List.nil_append, List.set_cons_zero, List.set_cons_succ, List.getElem?_cons_zero, List.getElem?_cons_succ, List.length_cons, List.length_nil, List.length_map, List.length_range, bind_ok, bind_err, bind_st, ofO_some, ofO_none, then_ok, then_err, then_st, Option.bind_some, Option.bind_none, Option.map_some, Option.map_none, Nat.zero_add, Nat.reduceAdd, Nat.reduceLeDiff, Nat.reduceEqDiff, ite_true, ite_false, if_true, if_false, reduceIte, Bool.not_true, Bool.not_false, Bool.false_eq_true, decide_eq_true_eq, Bool.not_eq_true, Int.reduceLT, Int.reduceLE, Int.reduceNeg, Int.reduceToNat, Int.reducePow, Int.reduceEq, Int.reduceAdd, Int.reduceSub, Int.reduceMul, Nat.reduceLT, decide_true, decide_false, $xs,*])
local macro_rules
  | `(tactic| simp_arith) => `(tactic| simp (config := {failIfUnchanged := false}) only [o0, o1, o2, o3, o4, o5, o6, o7, o8, o9, o10, o11, o12, o13, o14, o15, o16, o17, o18, o19, o20, o21, o22, o23, o24, o25, o26, o27, o28, o29, o30, o31, o32, o33, o34, o35, o36, o37, o38, o39, o40, o41, o42, o43, o44, o45, o46, o47, o48, at_seq, at_skip, at_asg, own_new, at_own, at_drop, at_ret, at_retN, rO_own, at_retOwn, at_if, at_brk, at_cnt, at_raise, ooS_some, unp1_tup, at_unp, setAll_nil, setAll_cons, par1_ok, par1_err, at_par2, frz1_own, frz1_v, at_frz, app0_own, at_app, app1_ok, pop0_own, at_pop, clr0_own, at_clr, aug0_int, aug1_int, at_aug, at_for, for_nil, gnx_some, for_cons, at_gN, at_gU,  at_e1, at_e2, at_st, vO_v, vO_own, at_var, at_c, settle_non, settle_bl, settle_int, settle_str, settle_lst, settle_tup, settle_frz, settle_new, add_int, add_str, add_tup, add_lst_lst, add_lst_new, add_lst_bor, add_new_lst, add_new_new, add_new_bor, add_bor_lst, add_bor_new, add_bor_bor, sub_int, mul_r, mul_l, fdiv_p, mod_p, pow_p, neg_int, lt_int, le_int, gt_int, ge_int, is_bl, ni_bl, is_n_non, ni_n_non, is_n_bl, ni_n_bl, is_n_int, ni_n_int, is_n_str, ni_n_str, is_n_lst, ni_n_lst, is_n_tup, ni_n_tup, is_n_new, ni_n_new, is_n_bor, ni_n_bor, items_lst, len_lst, list_lst, tuple_lst, ix_lst, tru_lst, rev_lst, slice_lst, ty_lst, sum_lst, all_lst, any_lst, items_new, len_new, list_new, tuple_new, ix_new, tru_new, rev_new, slice_new, ty_new, sum_new, all_new, any_new, items_bor, len_bor, list_bor, tuple_bor, ix_bor, tru_bor, rev_bor, slice_bor, ty_bor, sum_bor, all_bor, any_bor, len_tup, len_frz, len_str, list_tup, list_frz, tuple_tup, ix_tup, tru_tup, tru_bl, tru_int, tru_non, slice_tup, slice_frz, revT_tup, int_int, int_bl, abs_int, max_int, min_int, blO_bl, ty_non, ty_bl, ty_int, ty_str, ty_tup, at_tst, at_tst0, nB_ok, nB_err, at_notB, at_andB, at_orB, at_andE, at_orE, nE_ok, nE_err, at_notE, at_ifE, at_nilA, at_consA, tupL_ok, lstL_ok, at_tup, at_lst, callL_0, callL_1, callL_2, callL_3, callL_4, callL_5, at_call, at_chK, at_ch2, at_ch0, chR_ok, at_ch, at_isi, obl_some, isi1_at, kit2_t, kit2_f, at_kitT2, slc_ok, at_slice, at_noO, soO_int, at_someO, sq1_tup, sq1_lst, bl1_ok, bl1_err, bl1_st, at_seqI, rg1_int, at_rng1, rg2_int, rg0_ok, at_rng2, lc0_ok, at_lc, wipe_nil, wipe_cons, at_yes, kitT_int_int, kitT_int_bool, kitT_int_str, kitT_int_list, kitT_int_tuple, kitT_int_none, kitT_bool_int, kitT_bool_bool, kitT_bool_str, kitT_bool_list, kitT_bool_tuple, kitT_bool_none, kitT_tuple_int, kitT_tuple_bool, kitT_tuple_str, kitT_tuple_list, kitT_tuple_tuple, kitT_tuple_none, kitT_list_int, kitT_list_bool, kitT_list_str, kitT_list_list, kitT_list_tuple, kitT_list_none, kitT_str_int, kitT_str_bool, kitT_str_str, kitT_str_list, kitT_str_tuple, kitT_str_none, eqD_int, neD_int, eqD_bl, neD_bl, List.map_cons, List.map_nil, List.replicate, List.cons_append, List.nil_append, List.set_cons_zero, List.set_cons_succ, List.getElem?_cons_zero, List.getElem?_cons_succ, List.length_cons, List.length_nil, List.length_map, List.length_range, bind_ok, bind_err, bind_st, ofO_some, ofO_none, then_ok, then_err, then_st, Option.bind_some, Option.bind_none, Option.map_some, Option.map_none, Nat.zero_add, Nat.reduceAdd, Nat.reduceLeDiff, Nat.reduceEqDiff, ite_true, ite_false, if_true, if_false, reduceIte, Bool.not_true, Bool.not_false, Bool.false_eq_true, decide_eq_true_eq, Bool.not_eq_true, Int.reduceLT, Int.reduceLE, Int.reduceNeg, Int.reduceToNat, Int.reducePow, Int.reduceEq, Int.reduceAdd, Int.reduceSub, Int.reduceMul, Nat.reduceLT, decide_true, decide_false])

/-! ### borrowing, setting -/
def borR (r : Res D) : Res D := match r with
  | .ok d => if d.flat then .ok d else .st
  | .err x => .err x
  | .st => .st
section
variable {ρ : Rho} {i : Nat} {a fk fe : Ev} {ds : List D} {d : D} {x : Ex} {n : Int} {r : Res D}
theorem at_bor : borE i a ρ = bor0 ρ[i]? i a ρ := by
  unfold borE bor0
  cases h : ρ[i]? with
  | none => rfl
  | some s => cases s <;> rfl
theorem bor0_own : bor0 (some (.own ds)) i a ρ = borR (a (ρ.set i (.v (.lst ds)))) := by
  unfold bor0 borR
  show (a (ρ.set i (.v (.lst ds)))).bind _ = _
  cases a (ρ.set i (.v (.lst ds))) <;> rfl
theorem bor0_v : bor0 (some (.v d)) i a ρ = a ρ := id rfl
theorem borR_ok (h : d.flat = true) : borR (.ok d) = .ok d := by unfold borR; simp [h]
theorem borR_err : borR (.err x) = .err x := id rfl
def set3 (ρ : Rho) (i : Nat) (ds : List D) (d : D) (o : Option Nat) : Out := match o with
  | some j => .nx (ρ.set i (.own (ds.set j d)))
  | none => .st
def set2 (ρ : Rho) (i : Nat) (ds : List D) (d k : D) : Out := match k with
  | .int k => set3 ρ i ds d (ixN ds.length k)
  | _ => .st
def set1 (ρ : Rho) (i : Nat) (ds : List D) (fk : Ev) (d : D) : Out := (fk ρ).then ρ (set2 ρ i ds d)
def set0 (s : Option Slot) (i : Nat) (fk fe : Ev) (ρ : Rho) : Out := match s with
  | some (.own ds) => (stE fe ρ).then ρ (set1 ρ i ds fk)
  | _ => .st
theorem at_set : setS i fk fe ρ = set0 ρ[i]? i fk fe ρ := by
  unfold setS set0
  cases h : ρ[i]? with
  | none => rfl
  | some s =>
    cases s with
    | own ds =>
      refine congrArg ((stE fe ρ).then ρ) (funext fun d => ?_)
      unfold set1
      refine congrArg ((fk ρ).then ρ) (funext fun k => ?_)
      cases k <;> rfl
    | _ => rfl
theorem set0_own : set0 (some (.own ds)) i fk fe ρ = (stE fe ρ).then ρ (set1 ρ i ds fk) := id rfl
theorem at_set1 : set1 ρ i ds fk d = (fk ρ).then ρ (set2 ρ i ds d) := id rfl
theorem set2_int : set2 ρ i ds d (.int n) = set3 ρ i ds d (ixN ds.length n) := id rfl
theorem set3_some {j : Nat} : set3 ρ i ds d (some j) = .nx (ρ.set i (.own (ds.set j d))) := id rfl
end
theorem rng4 : rngI 0 4 = [.int 0, .int 1, .int 2, .int 3] := rfl
theorem rng3 : rngI 0 3 = [.int 0, .int 1, .int 2] := rfl
theorem at4_0 {a b c d : D} : L2.atI [a, b, c, d] 0 = some a := id rfl
theorem at4_1 {a b c d : D} : L2.atI [a, b, c, d] 1 = some b := id rfl
theorem at4_2 {a b c d : D} : L2.atI [a, b, c, d] 2 = some c := id rfl
theorem at4_3 {a b c d : D} : L2.atI [a, b, c, d] 3 = some d := id rfl
theorem asInts4 {a b c d : Int} : D.asInts [.int a, .int b, .int c, .int d] = some [a, b, c, d] := id rfl
def otB : Es := (retS (e1 tupleD (lcE (rng1I (cE (.int 4))) [2] (gN 2) yesB (e2 subD (e2 mulD (cE (.int 2)) (e1 sumD (lcE (seqI (varE 0)) [3] (gN 3) yesB (e2 ixD (varE 3) (varE 2))))) (e2 mulD (cE (.int 3)) (e2 ixD (e2 ixD (varE 0) (varE 1)) (varE 2)))))))
/-- the exchanged one at k -/
def othAt (k : Int) (p q r s : C4) : C4 := if k = 0 then C4.oth p q r s else if k = 1 then C4.oth q p r s else if k = 2 then C4.oth r p q s else C4.oth s p q r
theorem ot_ok (p q r s : C4) {k : Int} (h0 : 0 ≤ k) (h1 : k < 4) : runF 2 otB [.lst [p.d, q.d, r.d, s.d], .int k] = .ok (othAt k p q r s).d := by
  have h : k = 0 ∨ k = 1 ∨ k = 2 ∨ k = 3 := by omega
  have z1 : (0 : Nat) ≤ 16777216 := by decide
  have z2 : (2 : Int) < 18446744073709551616 := by decide
  have z3 : (3 : Int) < 18446744073709551616 := by decide
  rcases h with h | h | h | h <;> subst h
  · have e : othAt 0 p q r s = C4.oth p q r s := rfl
    rw [e]
    simp_arith [at_run, otB, C4.d, rng4, lc_cons, lc_nil, lcC_some, lcD_tt, at4_0, at4_1, at4_2, at4_3, asInts4]
    simp only [C4.oth, List.sum_cons, List.sum_nil, Res.ok.injEq, D.tup.injEq, List.cons.injEq, D.int.injEq, and_true]
    omega
  · have e : othAt 1 p q r s = C4.oth q p r s := rfl
    rw [e]
    simp_arith [at_run, otB, C4.d, rng4, lc_cons, lc_nil, lcC_some, lcD_tt, at4_0, at4_1, at4_2, at4_3, asInts4]
    simp only [C4.oth, List.sum_cons, List.sum_nil, Res.ok.injEq, D.tup.injEq, List.cons.injEq, D.int.injEq, and_true]
    omega
  · have e : othAt 2 p q r s = C4.oth r p q s := rfl
    rw [e]
    simp_arith [at_run, otB, C4.d, rng4, lc_cons, lc_nil, lcC_some, lcD_tt, at4_0, at4_1, at4_2, at4_3, asInts4]
    simp only [C4.oth, List.sum_cons, List.sum_nil, Res.ok.injEq, D.tup.injEq, List.cons.injEq, D.int.injEq, and_true]
    omega
  · have e : othAt 3 p q r s = C4.oth s p q r := rfl
    rw [e]
    simp_arith [at_run, otB, C4.d, rng4, lc_cons, lc_nil, lcC_some, lcD_tt, at4_0, at4_1, at4_2, at4_3, asInts4]
    simp only [C4.oth, List.sum_cons, List.sum_nil, Res.ok.injEq, D.tup.injEq, List.cons.injEq, D.int.injEq, and_true]
    omega
theorem oth_le {M : Int} {p q r s : C4} (hp : p.le M) (hq : q.le M) (hr : r.le M) (hs : s.le M) : (C4.oth p q r s).le (7 * M) := by
  unfold C4.le at *
  unfold C4.oth
  simp only
  omega
theorem d_flat (p : C4) : p.d.flat = true := by
  unfold C4.d
  rw [D.flat]
  simp only [D.flatAll, D.flat, Bool.and_self]
def flS (ot : List D → Res D) : Es := (setS 2 (varE 3) (borE 2 (callE 2 ot (consA (varE 2) (consA (varE 3) nilA)))))
def flB (ot : List D → Res D) : Es := (seqS (ownS 2 (e1 listD (varE 0)))
  (seqS (forS (seqI (varE 1)) (gN 3) (flS ot))
  (retOwn 2)))
structure Four (M : Int) (p q r s : C4) : Prop where
  tg : TG p q r s
  p : p.le M
  q : q.le M
  r : r.le M
  s : s.le M
theorem Four.mono {M N : Int} {p q r s : C4} (h : Four M p q r s) (k : M ≤ N) : Four N p q r s := ⟨h.tg, h.p.mono k, h.q.mono k, h.r.mono k, h.s.mono k⟩
theorem TG.sw {p q r s : C4} (h : TG p q r s) : TG q p r s := ⟨h.qq, h.pp, h.rr, h.ss, by rw [C4.Qc]; exact h.pq, h.qr, h.qs, h.pr, h.ps, h.rs⟩
theorem fl_loop {ot : List D → Res D} (ho : ∀ (p q r s : C4) (k : Int), 0 ≤ k → k < 4 → ot [.lst [p.d, q.d, r.d, s.d], .int k] = .ok (othAt k p q r s).d) (a0 a1 : Slot) : ∀ (w : List Int), (∀ k ∈ w, 0 ≤ k ∧ k < 4) → ∀ (M : Int) (p q r s : C4) (sl : Slot), 0 ≤ M → Four M p q r s →
    ∃ (p' q' r' s' : C4) (sl' : Slot), forO (gN 3) (flS ot) (il w) [a0, a1, .own [p.d, q.d, r.d, s.d], sl] = .nx [a0, a1, .own [p'.d, q'.d, r'.d, s'.d], sl'] ∧ Four (M * 7 ^ w.length) p' q' r' s'
  | [], _, M, p, q, r, s, sl, h0, h => ⟨p, q, r, s, sl, rfl, h.mono (by simp)⟩
  | k :: w, hw, M, p, q, r, s, sl, h0, h => by
    obtain ⟨k0, k1⟩ := hw k (List.mem_cons_self ..)
    have hM : M * 7 ^ (k :: w).length = 7 * M * 7 ^ w.length := by rw [List.length_cons, Int.pow_succ]; grind
    have e1 : il (k :: w) = D.int k :: il w := rfl
    have fl := d_flat (othAt k p q r s)
    have hk : k = 0 ∨ k = 1 ∨ k = 2 ∨ k = 3 := by omega
    have ho' := ho p q r s k k0 k1
    have m7 : M ≤ 7 * M := by omega
    rcases hk with hk | hk | hk | hk <;> subst hk
    · have h' : Four (7 * M) (C4.oth p q r s) q r s := ⟨h.tg.oth, oth_le h.p h.q h.r h.s, h.q.mono m7, h.r.mono m7, h.s.mono m7⟩
      obtain ⟨p', q', r', s', sl', g1, g2⟩ := fl_loop ho a0 a1 w (fun k m => hw k (List.mem_cons_of_mem _ m)) (7 * M) _ _ _ _ (.v (.int 0)) (by omega) h'
      refine ⟨p', q', r', s', sl', ?_, by rw [hM]; exact g2⟩
      have ix : ixN 4 0 = some 0 := rfl
      have e : othAt 0 p q r s = C4.oth p q r s := rfl
      rw [e] at ho' fl
      rw [← g1, e1]
      simp_arith [flS, at_set, set0_own, at_set1, at_bor, bor0_own, ho', borR_ok, fl, set2_int, set3_some, ix]
    · have h' : Four (7 * M) p (C4.oth q p r s) r s := ⟨h.tg.sw.oth.sw, h.p.mono m7, oth_le h.q h.p h.r h.s, h.r.mono m7, h.s.mono m7⟩
      obtain ⟨p', q', r', s', sl', g1, g2⟩ := fl_loop ho a0 a1 w (fun k m => hw k (List.mem_cons_of_mem _ m)) (7 * M) _ _ _ _ (.v (.int 1)) (by omega) h'
      refine ⟨p', q', r', s', sl', ?_, by rw [hM]; exact g2⟩
      have ix : ixN 4 1 = some 1 := rfl
      have e : othAt 1 p q r s = C4.oth q p r s := rfl
      rw [e] at ho' fl
      rw [← g1, e1]
      simp_arith [flS, at_set, set0_own, at_set1, at_bor, bor0_own, ho', borR_ok, fl, set2_int, set3_some, ix]
    · have t1 : TG r p q s := ⟨h.tg.rr, h.tg.pp, h.tg.qq, h.tg.ss, by rw [C4.Qc]; exact h.tg.pr, by rw [C4.Qc]; exact h.tg.qr, h.tg.rs, h.tg.pq, h.tg.ps, h.tg.qs⟩
      have t2 := t1.oth
      have h' : Four (7 * M) p q (C4.oth r p q s) s := ⟨⟨t2.qq, t2.rr, t2.pp, t2.ss, t2.qr, by rw [C4.Qc]; exact t2.pq, t2.qs, by rw [C4.Qc]; exact t2.pr, t2.rs, t2.ps⟩, h.p.mono m7, h.q.mono m7, oth_le h.r h.p h.q h.s, h.s.mono m7⟩
      obtain ⟨p', q', r', s', sl', g1, g2⟩ := fl_loop ho a0 a1 w (fun k m => hw k (List.mem_cons_of_mem _ m)) (7 * M) _ _ _ _ (.v (.int 2)) (by omega) h'
      refine ⟨p', q', r', s', sl', ?_, by rw [hM]; exact g2⟩
      have ix : ixN 4 2 = some 2 := rfl
      have e : othAt 2 p q r s = C4.oth r p q s := rfl
      rw [e] at ho' fl
      rw [← g1, e1]
      simp_arith [flS, at_set, set0_own, at_set1, at_bor, bor0_own, ho', borR_ok, fl, set2_int, set3_some, ix]
    · have t1 : TG s p q r := h.tg.rev.rot.rot.rot.rev.rot.rot |> fun _ => ⟨h.tg.ss, h.tg.pp, h.tg.qq, h.tg.rr, by rw [C4.Qc]; exact h.tg.ps, by rw [C4.Qc]; exact h.tg.qs, by rw [C4.Qc]; exact h.tg.rs, h.tg.pq, h.tg.pr, h.tg.qr⟩
      have t2 := t1.oth
      have h' : Four (7 * M) p q r (C4.oth s p q r) := ⟨t2.rot, h.p.mono m7, h.q.mono m7, h.r.mono m7, oth_le h.s h.p h.q h.r⟩
      obtain ⟨p', q', r', s', sl', g1, g2⟩ := fl_loop ho a0 a1 w (fun k m => hw k (List.mem_cons_of_mem _ m)) (7 * M) _ _ _ _ (.v (.int 3)) (by omega) h'
      refine ⟨p', q', r', s', sl', ?_, by rw [hM]; exact g2⟩
      have ix : ixN 4 3 = some 3 := rfl
      have e : othAt 3 p q r s = C4.oth s p q r := rfl
      rw [e] at ho' fl
      rw [← g1, e1]
      simp_arith [flS, at_set, set0_own, at_set1, at_bor, bor0_own, ho', borR_ok, fl, set2_int, set3_some, ix]
theorem fl_ok {ot : List D → Res D} (ho : ∀ (p q r s : C4) (k : Int), 0 ≤ k → k < 4 → ot [.lst [p.d, q.d, r.d, s.d], .int k] = .ok (othAt k p q r s).d) {w : List Int} (hw : ∀ k ∈ w, 0 ≤ k ∧ k < 4) {M : Int} {p q r s : C4} (h0 : 0 ≤ M) (h : Four M p q r s) :
    ∃ p' q' r' s' : C4, runF 2 (flB ot) [.lst [p.d, q.d, r.d, s.d], .lst (il w)] = .ok (.lst [p'.d, q'.d, r'.d, s'.d]) ∧ Four (M * 7 ^ w.length) p' q' r' s' := by
  obtain ⟨p', q', r', s', sl', g1, g2⟩ := fl_loop ho (.v (.lst [p.d, q.d, r.d, s.d])) (.v (.lst (il w))) w hw M p q r s .un h0 h
  refine ⟨p', q', r', s', ?_, g2⟩
  simp_arith [at_run, flB, g1]

def frB (gv ld fl : List D → Res D) : Es := (seqS (asgS 2 (lcE (seqI (callE 1 gv (consA (e2 ixD (varE 0) (varE 1)) nilA))) [5] (gN 5) yesB (callE 3 ld (consA (varE 0) (consA (e2 addD (varE 1) (cE (.int 1))) (consA (varE 5) nilA))))))
  (seqS (asgS 3 (lcE (rng1I (e2 modD (e1 intD (e2 ixD (varE 0) (e2 addD (varE 1) (cE (.int 5))))) (cE (.int 7)))) [6] (gN 6) yesB (e2 modD (e1 intD (e2 ixD (varE 0) (e2 addD (e2 addD (varE 1) (cE (.int 6))) (varE 6)))) (cE (.int 4)))))
  (seqS (asgS 2 (callE 2 fl (consA (varE 2) (consA (varE 3) nilA))))
  (seqS (asgS 4 (e2 modD (e1 intD (e2 ixD (varE 0) (e2 addD (varE 1) (cE (.int 12))))) (cE (.int 4))))
  (seqS (asgS 2 (e2 addD (sliceE (varE 2) (someO (varE 4)) noO) (sliceE (varE 2) noO (someO (varE 4)))))
  (seqS (ifS (tst0 (e2 eqD (e2 modD (e1 intD (e2 ixD (varE 0) (e2 addD (varE 1) (cE (.int 13))))) (cE (.int 2))) (cE (.int 1))))
  (asgS 2 (e1 revD (varE 2)))
  skipS)
  (retS (varE 2))))))))
theorem fr_ok {gv ld fl : List D → Res D}
    (hg : ∀ n : Int, ∃ p q r s : C4, gv [.int n] = .ok (.lst [p.d, q.d, r.d, s.d]) ∧ TG p q r s ∧ p.le 2000 ∧ q.le 2000 ∧ r.le 2000 ∧ s.le 2000)
    (hd : ∀ {L : List Int} {a : Int}, 0 ≤ a → a + 3 < L.length → ∃ τ : C4 → C4, Keeps τ ∧ ∀ p : C4, p.le 2000 → (τ p).le 5000000000 ∧ ld [.lst (il L), .int a, p.d] = .ok (τ p).d)
    (hf : ∀ {w : List Int} {M : Int} {p q r s : C4}, (∀ k ∈ w, 0 ≤ k ∧ k < 4) → 0 ≤ M → Four M p q r s → ∃ p' q' r' s' : C4, fl [.lst [p.d, q.d, r.d, s.d], .lst (il w)] = .ok (.lst [p'.d, q'.d, r'.d, s'.d]) ∧ Four (M * 7 ^ w.length) p' q' r' s')
    {L : List Int} {a : Int} (h0 : 0 ≤ a) (h1 : a + 13 < L.length) :
    ∃ p q r s : C4, runF 5 (frB gv ld fl) [.lst (il L), .int a] = .ok (.lst [p.d, q.d, r.d, s.d]) ∧ Four 600000000000000 p q r s := by
  have i0 := atI_ints (l := L) (i := a) h0 (by omega)
  have i5 := atI_ints (l := L) (i := a + 5) (by omega) (by omega)
  have i12 := atI_ints (l := L) (i := a + 12) (by omega) (by omega)
  have i13 := atI_ints (l := L) (i := a + 13) (by omega) (by omega)
  generalize L.getD a.toNat 0 = n0 at i0
  generalize L.getD (a + 5).toNat 0 = n5 at i5
  generalize L.getD (a + 12).toNat 0 = n12 at i12
  generalize L.getD (a + 13).toNat 0 = n13 at i13
  obtain ⟨p, q, r, s, g1, g2, g3, g4, g5, g6⟩ := hg n0
  obtain ⟨τ, k1, k2⟩ := hd (L := L) (a := a + 1) (by omega) (by omega)
  have h7 : (0 : Int) < 7 := by decide
  have h4 : (0 : Int) < 4 := by decide
  have h2 : (0 : Int) < 2 := by decide
  have m0 := Int.emod_nonneg n5 (show (7 : Int) ≠ 0 by decide)
  have m1 := Int.emod_lt_of_pos n5 h7
  -- the word
  have hw : lcO (gN 6) yesB (e2 modD (e1 intD (e2 ixD (varE 0) (e2 addD (e2 addD (varE 1) (cE (.int 6))) (varE 6)))) (cE (.int 4))) [.v (.lst (il L)), .v (.int a), .v (.lst [(τ p).d, (τ q).d, (τ r).d, (τ s).d]), .un, .un, .un, .un] (rngI 0 (n5 % 7).toNat) =
      .ok ((rngI 0 (n5 % 7).toNat).map fun d => match d with | .int k => .int (L.getD (a + 6 + k).toNat 0 % 4) | d => d) := by
    refine lc_map fun e he => ?_
    unfold rngI at he
    obtain ⟨k, hk, rfl⟩ := List.mem_map.mp he
    rw [List.mem_range] at hk
    refine ⟨_, rfl, rfl, ?_⟩
    have e1 := atI_ints (l := L) (i := a + 6 + (0 + (k : Int))) (by omega) (by omega)
    simp_arith [e1, h4]
  have hw2 : (rngI 0 (n5 % 7).toNat).map (fun d => match d with | .int k => D.int (L.getD (a + 6 + k).toNat 0 % 4) | d => d) = il ((List.range (n5 % 7).toNat).map fun k : Nat => L.getD (a + 6 + (0 + (k : Int))).toNat 0 % 4) := by
    unfold rngI il
    rw [List.map_map, List.map_map]
    rfl
  rw [hw2] at hw
  have wl : ((List.range (n5 % 7).toNat).map fun k : Nat => L.getD (a + 6 + (0 + (k : Int))).toNat 0 % 4).length ≤ 6 := by
    rw [List.length_map, List.length_range]; omega
  have wm : ∀ x ∈ ((List.range (n5 % 7).toNat).map fun k : Nat => L.getD (a + 6 + (0 + (k : Int))).toNat 0 % 4), 0 ≤ x ∧ x < 4 := by
    intro x hx
    obtain ⟨k, _, rfl⟩ := List.mem_map.mp hx
    exact ⟨Int.emod_nonneg _ (by decide), Int.emod_lt_of_pos _ h4⟩
  generalize ((List.range (n5 % 7).toNat).map fun k : Nat => L.getD (a + 6 + (0 + (k : Int))).toNat 0 % 4) = w at hw wl wm
  have F0 : Four 5000000000 (τ p) (τ q) (τ r) (τ s) := ⟨g2.map k1, (k2 p g3).1, (k2 q g4).1, (k2 r g5).1, (k2 s g6).1⟩
  obtain ⟨p', q', r', s', f1, f2⟩ := hf wm (by decide) F0
  have f3 : Four 600000000000000 p' q' r' s' := by
    refine f2.mono ?_
    have e : (7 : Int) ^ w.length ≤ 7 ^ 6 := by
      have := Nat.pow_le_pow_right (show 0 < 7 by decide) wl
      exact_mod_cast this
    have e2 : (5000000000 : Int) * 7 ^ w.length ≤ 5000000000 * 7 ^ 6 := Int.mul_le_mul_of_nonneg_left e (by decide)
    exact Int.le_trans e2 (by decide)
  have kp := (k2 p g3).2
  have kq := (k2 q g4).2
  have kr := (k2 r g5).2
  have ks := (k2 s g6).2
  have b1 : -4611686018427387904 ≤ n5 % 7 := by omega
  have b2 : n5 % 7 < 4611686018427387904 := by omega
  have b3 : (n5 % 7).toNat ≤ 16777216 := by omega
  have t0 := Int.emod_nonneg n12 (show (4 : Int) ≠ 0 by decide)
  have t1 := Int.emod_lt_of_pos n12 h4
  unfold C4.d at kp kq kr ks g1 f1 hw
  have turn : ∃ P Q R S : C4, Four 600000000000000 P Q R S ∧ cutL [p'.d, q'.d, r'.d, s'.d] (some (n12 % 4)) none ++ cutL [p'.d, q'.d, r'.d, s'.d] none (some (n12 % 4)) = [P.d, Q.d, R.d, S.d] ∧ (cutL [p'.d, q'.d, r'.d, s'.d] (some (n12 % 4)) none).length + (cutL [p'.d, q'.d, r'.d, s'.d] none (some (n12 % 4))).length ≤ 16777216 := by
    have h : n12 % 4 = 0 ∨ n12 % 4 = 1 ∨ n12 % 4 = 2 ∨ n12 % 4 = 3 := by omega
    have rt : ∀ {P Q R S : C4}, Four 600000000000000 P Q R S → Four 600000000000000 Q R S P := fun h => ⟨h.tg.rot, h.q, h.r, h.s, h.p⟩
    rcases h with h | h | h | h <;> rw [h]
    · exact ⟨_, _, _, _, f3, rfl, (by decide : 4 ≤ 16777216)⟩
    · exact ⟨_, _, _, _, rt f3, rfl, (by decide : 4 ≤ 16777216)⟩
    · exact ⟨_, _, _, _, rt (rt f3), rfl, (by decide : 4 ≤ 16777216)⟩
    · exact ⟨_, _, _, _, rt (rt (rt f3)), rfl, (by decide : 4 ≤ 16777216)⟩
  obtain ⟨P, Q, R, S, f4, c1, c2⟩ := turn
  unfold C4.d at c1 c2
  by_cases hv : n13 % 2 = 1
  · have e : (n13 % 2 == 1) = true := by simp [hv]
    refine ⟨S, R, Q, P, ?_, ⟨f4.tg.rev, f4.s, f4.r, f4.q, f4.p⟩⟩
    simp_arith [at_run, frB, C4.d, i0, g1, lc_cons, lc_nil, lcC_some, lcD_tt, kp, kq, kr, ks, i5, h7, b1, b2, rngI_length, b3, hw, f1, i12, h4, c1, c2, i13, h2, e, List.reverse_cons, List.reverse_nil]
  · have e : (n13 % 2 == 1) = false := by simp [hv]
    refine ⟨P, Q, R, S, ?_, f4⟩
    simp_arith [at_run, frB, C4.d, i0, g1, lc_cons, lc_nil, lcC_some, lcD_tt, kp, kq, kr, ks, i5, h7, b1, b2, rngI_length, b3, hw, f1, i12, h4, c1, c2, i13, h2, e]
end DL

namespace DL
open PySem L2
local macro_rules
  | `(tactic| simp_arith [$xs,*]) => `(tactic| simp (config := {failIfUnchanged := false}) only [o0, o1, o2, o3, o4, o5, o6, o7, o8, o9, o10, o11, o12, o13, o14, o15, o16, o17, o18, o19, o20, o21, o22, o23, o24, o25, o26, o27, o28, o29, o30, o31, o32, o33, o34, o35, o36, o37, o38, o39, o40, o41, o42, o43, o44, o45, o46, o47, o48, at_seq, at_skip, at_asg, own_new, at_own, at_drop, at_ret, at_retN, rO_own, at_retOwn, at_if, at_brk, at_cnt, at_raise, ooS_some, unp1_tup, at_unp, setAll_nil, setAll_cons, par1_ok, par1_err, at_par2, frz1_own, frz1_v, at_frz, app0_own, at_app, app1_ok, pop0_own, at_pop, clr0_own, at_clr, aug0_int, aug1_int, at_aug, at_for, for_nil, gnx_some, for_cons, at_gN, at_gU,  at_e1, at_e2, at_st, vO_v, vO_own, at_var, at_c, settle_non, settle_bl, settle_int, settle_str, settle_lst, settle_tup, settle_frz, settle_new, add_int, add_str, add_tup, add_lst_lst, add_lst_new, add_lst_bor, add_new_lst, add_new_new, add_new_bor, add_bor_lst, add_bor_new, add_bor_bor, sub_int, mul_r, mul_l, fdiv_p, mod_p, pow_p, neg_int, lt_int, le_int, gt_int, ge_int, is_bl, ni_bl, is_n_non, ni_n_non, is_n_bl, ni_n_bl, is_n_int, ni_n_int, is_n_str, ni_n_str, is_n_lst, ni_n_lst, is_n_tup, ni_n_tup, is_n_new, ni_n_new, is_n_bor, ni_n_bor, items_lst, len_lst, list_lst, tuple_lst, ix_lst, tru_lst, rev_lst, slice_lst, ty_lst, sum_lst, all_lst, any_lst, items_new, len_new, list_new, tuple_new, ix_new, tru_new, rev_new, slice_new, ty_new, sum_new, all_new, any_new, items_bor, len_bor, list_bor, tuple_bor, ix_bor, tru_bor, rev_bor, slice_bor, ty_bor, sum_bor, all_bor, any_bor, len_tup, len_frz, len_str, list_tup, list_frz, tuple_tup, ix_tup, tru_tup, tru_bl, tru_int, tru_non, slice_tup, slice_frz, revT_tup, int_int, int_bl, abs_int, max_int, min_int, blO_bl, ty_non, ty_bl, ty_int, ty_str, ty_tup, at_tst, at_tst0, nB_ok, nB_err, at_notB, at_andB, at_orB, at_andE, at_orE, nE_ok, nE_err, at_notE, at_ifE, at_nilA, at_consA, tupL_ok, lstL_ok, at_tup, at_lst, callL_0, callL_1, callL_2, callL_3, callL_4, callL_5, at_call, at_chK, at_ch2, at_ch0, chR_ok, at_ch, at_isi, obl_some, isi1_at, kit2_t, kit2_f, at_kitT2, slc_ok, at_slice, at_noO, soO_int, at_someO, sq1_tup, sq1_lst, bl1_ok, bl1_err, bl1_st, at_seqI, rg1_int, at_rng1, rg2_int, rg0_ok, at_rng2, lc0_ok, at_lc, wipe_nil, wipe_cons, at_yes, kitT_int_int, kitT_int_bool, kitT_int_str, kitT_int_list, kitT_int_tuple, kitT_int_none, kitT_bool_int, kitT_bool_bool, kitT_bool_str, kitT_bool_list, kitT_bool_tuple, kitT_bool_none, kitT_tuple_int, kitT_tuple_bool, kitT_tuple_str, kitT_tuple_list, kitT_tuple_tuple, kitT_tuple_none, kitT_list_int, kitT_list_bool, kitT_list_str, kitT_list_list, kitT_list_tuple, kitT_list_none, kitT_str_int, kitT_str_bool, kitT_str_str, kitT_str_list, kitT_str_tuple, kitT_str_none, eqD_int, neD_int, eqD_bl, neD_bl, List.map_cons, List.map_nil, List.replicate, List.cons_append, List.nil_append, List.set_cons_zero, List.set_cons_succ, List.getElem?_cons_zero, List.getElem?_cons_succ, List.length_cons, List.length_nil, List.length_map, List.length_range, bind_ok, bind_err, bind_st, ofO_some, ofO_none, then_ok, then_err, then_st, Option.bind_some, Option.bind_none, Option.map_some, Option.map_none, Nat.zero_add, Nat.reduceAdd, Nat.reduceLeDiff, Nat.reduceEqDiff, ite_true, ite_false, if_true, if_false, reduceIte, Bool.not_true, Bool.not_false, Bool.false_eq_true, decide_eq_true_eq, Bool.not_eq_true, Int.reduceLT, Int.reduceLE, Int.reduceNeg, Int.reduceToNat, Int.reducePow, Int.reduceEq, Int.reduceAdd, Int.reduceSub, Int.reduceMul, Nat.reduceLT, decide_true, decide_false, $xs,*])
local macro_rules
  | `(tactic| simp_arith) => `(tactic| simp (config := {failIfUnchanged := false}) only [o0, o1, o2, o3, o4, o5, o6, o7, o8, o9, o10, o11, o12, o13, o14, o15, o16, o17, o18, o19, o20, o21, o22, o23, o24, o25, o26, o27, o28, o29, o30, o31, o32, o33, o34, o35, o36, o37, o38, o39, o40, o41, o42, o43, o44, o45, o46, o47, o48, at_seq, at_skip, at_asg, own_new, at_own, at_drop, at_ret, at_retN, rO_own, at_retOwn, at_if, at_brk, at_cnt, at_raise, ooS_some, unp1_tup, at_unp, setAll_nil, setAll_cons, par1_ok, par1_err, at_par2, frz1_own, frz1_v, at_frz, app0_own, at_app, app1_ok, pop0_own, at_pop, clr0_own, at_clr, aug0_int, aug1_int, at_aug, at_for, for_nil, gnx_some, for_cons, at_gN, at_gU,  at_e1, at_e2, at_st, vO_v, vO_own, at_var, at_c, settle_non, settle_bl, settle_int, settle_str, settle_lst, settle_tup, settle_frz, settle_new, add_int, add_str, add_tup, add_lst_lst, add_lst_new, add_lst_bor, add_new_lst, add_new_new, add_new_bor, add_bor_lst, add_bor_new, add_bor_bor, sub_int, mul_r, mul_l, fdiv_p, mod_p, pow_p, neg_int, lt_int, le_int, gt_int, ge_int, is_bl, ni_bl, is_n_non, ni_n_non, is_n_bl, ni_n_bl, is_n_int, ni_n_int, is_n_str, ni_n_str, is_n_lst, ni_n_lst, is_n_tup, ni_n_tup, is_n_new, ni_n_new, is_n_bor, ni_n_bor, items_lst, len_lst, list_lst, tuple_lst, ix_lst, tru_lst, rev_lst, slice_lst, ty_lst, sum_lst, all_lst, any_lst, items_new, len_new, list_new, tuple_new, ix_new, tru_new, rev_new, slice_new, ty_new, sum_new, all_new, any_new, items_bor, len_bor, list_bor, tuple_bor, ix_bor, tru_bor, rev_bor, slice_bor, ty_bor, sum_bor, all_bor, any_bor, len_tup, len_frz, len_str, list_tup, list_frz, tuple_tup, ix_tup, tru_tup, tru_bl, tru_int, tru_non, slice_tup, slice_frz, revT_tup, int_int, int_bl, abs_int, max_int, min_int, blO_bl, ty_non, ty_bl, ty_int, ty_str, ty_tup, at_tst, at_tst0, nB_ok, nB_err, at_notB, at_andB, at_orB, at_andE, at_orE, nE_ok, nE_err, at_notE, at_ifE, at_nilA, at_consA, tupL_ok, lstL_ok, at_tup, at_lst, callL_0, callL_1, callL_2, callL_3, callL_4, callL_5, at_call, at_chK, at_ch2, at_ch0, chR_ok, at_ch, at_isi, obl_some, isi1_at, kit2_t, kit2_f, at_kitT2, slc_ok, at_slice, at_noO, soO_int, at_someO, sq1_tup, sq1_lst, bl1_ok, bl1_err, bl1_st, at_seqI, rg1_int, at_rng1, rg2_int, rg0_ok, at_rng2, lc0_ok, at_lc, wipe_nil, wipe_cons, at_yes, kitT_int_int, kitT_int_bool, kitT_int_str, kitT_int_list, kitT_int_tuple, kitT_int_none, kitT_bool_int, kitT_bool_bool, kitT_bool_str, kitT_bool_list, kitT_bool_tuple, kitT_bool_none, kitT_tuple_int, kitT_tuple_bool, kitT_tuple_str, kitT_tuple_list, kitT_tuple_tuple, kitT_tuple_none, kitT_list_int, kitT_list_bool, kitT_list_str, kitT_list_list, kitT_list_tuple, kitT_list_none, kitT_str_int, kitT_str_bool, kitT_str_str, kitT_str_list, kitT_str_tuple, kitT_str_none, eqD_int, neD_int, eqD_bl, neD_bl, List.map_cons, List.map_nil, List.replicate, List.cons_append, List.nil_append, List.set_cons_zero, List.set_cons_succ, List.getElem?_cons_zero, List.getElem?_cons_succ, List.length_cons, List.length_nil, List.length_map, List.length_range, bind_ok, bind_err, bind_st, ofO_some, ofO_none, then_ok, then_err, then_st, Option.bind_some, Option.bind_none, Option.map_some, Option.map_none, Nat.zero_add, Nat.reduceAdd, Nat.reduceLeDiff, Nat.reduceEqDiff, ite_true, ite_false, if_true, if_false, reduceIte, Bool.not_true, Bool.not_false, Bool.false_eq_true, decide_eq_true_eq, Bool.not_eq_true, Int.reduceLT, Int.reduceLE, Int.reduceNeg, Int.reduceToNat, Int.reducePow, Int.reduceEq, Int.reduceAdd, Int.reduceSub, Int.reduceMul, Nat.reduceLT, decide_true, decide_false])

/-! ### try: the steps -/
section
variable {ρ : Rho} {i : Nat} {a a' : Addr} {k : Bool} {fb : Es} {mt : Ex → Option Bool} {fh : Addr → Es} {x : Ex} {d : D} {C : Addr} {b : Bool} {l : List (Addr × Bool)}
def isE0 (s : Option Slot) (a : Addr) (k : Bool) : Res D := match s with
  | some (.exc a') => if a' = a then .ok (.bl k) else .st
  | _ => .st
theorem at_isEx : isEx i a k ρ = isE0 ρ[i]? a k := by
  unfold isEx isE0
  cases ρ[i]? with
  | none => rfl
  | some s => cases s <;> rfl
theorem isE0_exc : isE0 (some (.exc a)) a k = .ok (.bl k) := by
  unfold isE0
  simp
theorem at_tryAs : tryAs i fb mt fh ρ = catchA i mt fh (fb ρ) := id rfl
noncomputable def catch1 (o : Option Bool) (i : Nat) (fh : Addr → Es) (x : Ex) (ρ : Rho) : Out := match o with
  | some true => joinA fun a => clrO i (fh a (ρ.set i (.exc a)))
  | some false => .er x ρ
  | none => .st
theorem catchA_er : catchA i mt fh (.er x ρ) = catch1 (mt x) i fh x ρ := by unfold catchA catch1; rfl
theorem catchA_nx : catchA i mt fh (.nx ρ) = .nx ρ := id rfl
theorem catchA_rt : catchA i mt fh (.rt d) = .rt d := id rfl
theorem catch1_t : catch1 (some true) i fh x ρ = joinA fun a => clrO i (fh a (ρ.set i (.exc a))) := id rfl
theorem catch1_f : catch1 (some false) i fh x ρ = .er x ρ := id rfl
theorem mtL_at : mtL l ⟨.ref C, none⟩ = l.lookup C := id rfl
theorem look_self : List.lookup C ((C, b) :: l) = some b := by simp
theorem clrO_nx : clrO i (.nx ρ) = .nx (ρ.set i .un) := id rfl
theorem clrO_rt : clrO i (.rt d) = .rt d := id rfl
end
theorem neD_4 (a b c d a' b' c' d' : Int) : neD (.tup [.int a, .int b, .int c, .int d]) (.tup [.int a', .int b', .int c', .int d']) = some (.bl (!([a, b, c, d] == [a', b', c', d']))) := by
  show neD (.tup (il [a, b, c, d])) (.tup (il [a', b', c', d'])) = _
  unfold neD
  rw [okEq_ints_t, okEq_ints_t, D.py, D.py, PyData.eqv, eqv_ints]
  rfl

/-! ### the program's circles -/
inductive IsC : D → C4 → Prop
  | t (p : C4) : IsC (.tup [.int p.b, .int p.c, .int p.x, .int p.y]) p
  | l (p : C4) : IsC (.lst [.int p.b, .int p.c, .int p.x, .int p.y]) p
def C4.one (p : C4) : Bool := p.x * p.x + p.y * p.y - p.b * p.c == 1
def cirB : Es := (seqS (ifS (tst0 (e2 neD (e1 lenD (varE 0)) (cE (.int 4))))
  (retS (cE (.bl false)))
  skipS)
  (seqS (unpAS [1, 2, 3, 4] (varE 0))
  (retS (e2 eqD (e2 subD (e2 addD (e2 mulD (varE 3) (varE 3)) (e2 mulD (varE 4) (varE 4))) (e2 mulD (varE 1) (varE 2))) (cE (.int 1))))))
theorem cir_ok {d : D} {p : C4} (i : IsC d p) (h : p.le 1000000000000000000) : runF 4 cirB [d] = .ok (.bl p.one) := by
  unfold C4.le at h
  have h1 : -18446744073709551616 < p.x := by omega
  have h2 : p.x < 18446744073709551616 := by omega
  have h3 : -18446744073709551616 < p.y := by omega
  have h4 : p.y < 18446744073709551616 := by omega
  have h5 : -18446744073709551616 < p.c := by omega
  have h6 : p.c < 18446744073709551616 := by omega
  have e2 : (((4 : Nat) : Int) != 4) = false := rfl
  cases i <;> simp_arith [at_run, cirB, at_unpA, unp1A_tup, unp1A_lst, h1, h2, h3, h4, h5, h6, e2, C4.one]
theorem cir_len {ds : List D} (h : ((ds.length : Int) != 4) = true) : runF 4 cirB [.tup ds] = .ok (.bl false) := by
  simp_arith [at_run, cirB, h]
def ckcB (C : Addr) (cir : List D → Res D) : Es := (ifS (notB (tstE (callE 1 cir (consA (varE 0) nilA))))
  (raiseS ⟨.ref C, none⟩)
  skipS)
theorem ckc_ok {C : Addr} {cir : List D → Res D} {d : D} (hs : D.settle d = some d) (h : cir [d] = .ok (.bl true)) : runF 0 (ckcB C cir) [d] = .ok .non := by simp_arith [at_run, ckcB, hs, h]
theorem ckc_no {C : Addr} {cir : List D → Res D} {d : D} (hs : D.settle d = some d) (h : cir [d] = .ok (.bl false)) : runF 0 (ckcB C cir) [d] = .err ⟨.ref C, none⟩ := by simp_arith [at_run, ckcB, hs, h]
theorem IsC.set {d : D} {p : C4} (i : IsC d p) : D.settle d = some d := by cases i <;> rfl
def linB (chk : List D → Res D) : Es := (seqS (dropS (callE 1 chk (consA (varE 0) nilA)))
  (retS (e2 eqD (e2 ixD (varE 0) (cE (.int 0))) (cE (.int 0)))))
theorem lin_ok {chk : List D → Res D} {d : D} {p : C4} (i : IsC d p) (h : chk [d] = .ok .non) : runF 0 (linB chk) [d] = .ok (.bl (p.b == 0)) := by
  cases i <;> simp_arith [at_run, linB, h, at4_0]
theorem lin_no {chk : List D → Res D} {d : D} {x : Ex} (hs : D.settle d = some d) (h : chk [d] = .err x) : runF 0 (linB chk) [d] = .err x := by
  simp_arith [at_run, linB, hs, h]
def negM (p : C4) : C4 := ⟨-p.b, -p.c, -p.x, -p.y⟩
theorem neg_one (p : C4) : (negM p).one = p.one := by
  unfold C4.one negM
  simp only [Int.neg_mul_neg]
theorem neg_le {M : Int} {p : C4} (h : p.le M) : (negM p).le M := by
  unfold C4.le at *
  unfold negM
  simp only
  omega
def oppB (chk : List D → Res D) : Es := (seqS (dropS (callE 1 chk (consA (varE 0) nilA)))
  (retS (e1 tupleD (lcE (seqI (varE 0)) [1] (gN 1) yesB (e1 negD (varE 1))))))
theorem opp_ok {chk : List D → Res D} {d : D} {p : C4} (i : IsC d p) (h : chk [d] = .ok .non) : runF 1 (oppB chk) [d] = .ok (negM p).d := by
  cases i <;> simp_arith [at_run, oppB, h, lc_cons, lc_nil, lcC_some, lcD_tt, negM, C4.d]
theorem opp_no {chk : List D → Res D} {d : D} {x : Ex} (hs : D.settle d = some d) (h : chk [d] = .err x) : runF 1 (oppB chk) [d] = .err x := by
  simp_arith [at_run, oppB, hs, h]
/-! the law's own -/
def lopB : Es := (retS (e1 tupleD (lcE (seqI (varE 0)) [1] (gN 1) yesB (e2 subD (cE (.int 0)) (varE 1)))))
theorem lop_ok (p : C4) : runF 1 lopB [.tup [.int p.b, .int p.c, .int p.x, .int p.y]] = .ok (negM p).d := by
  simp_arith [at_run, lopB, lc_cons, lc_nil, lcC_some, lcD_tt, negM, C4.d, Int.zero_sub]
noncomputable def refS (C : Addr) (chk lin opp : List D → Res D) : Es := (tryAs 3 (ifS (tst0 (e2 eqD (varE 2) (cE (.int 0))))
  (dropS (callE 1 chk (consA (varE 0) nilA)))
  (ifS (tst0 (e2 eqD (varE 2) (cE (.int 1))))
  (dropS (callE 1 lin (consA (varE 0) nilA)))
  (dropS (callE 1 opp (consA (varE 0) nilA))))) (mtL [(C, true)])
  (fun a => (asgS 1 (e2 addD (varE 1) (e1 intD (andE (isEx 3 a true) (andE (isEx 3 a true) (notE (isEx 3 a false)))))))))
noncomputable def refB (C : Addr) (chk lin opp : List D → Res D) : Es := (seqS (asgS 1 (cE (.int 0)))
  (seqS (forS (rng1I (cE (.int 3))) (gN 2) (refS C chk lin opp))
  (retS (e2 eqD (varE 1) (cE (.int 3))))))
theorem ref_ok {C : Addr} {chk lin opp : List D → Res D} {d : D} (hs : D.settle d = some d) (h1 : chk [d] = .err ⟨.ref C, none⟩) (h2 : lin [d] = .err ⟨.ref C, none⟩) (h3 : opp [d] = .err ⟨.ref C, none⟩) : runF 3 (refB C chk lin opp) [d] = .ok (.bl true) := by
  have q0 : ((0 : Int) == 0) = true := rfl
  have q1 : ((1 : Int) == 0) = false := rfl
  have q2 : ((2 : Int) == 0) = false := rfl
  have q3 : ((1 : Int) == 1) = true := rfl
  have q4 : ((2 : Int) == 1) = false := rfl
  have q5 : ((3 : Int) == 3) = true := rfl
  simp_arith [at_run, refB, rng3, refS, at_tryAs, hs, h1, h2, h3, catchA_er, mtL_at, look_self, catch1_t, at_isEx, isE0_exc, clrO_nx, joinA_const, q0, q1, q2, q3, q4, q5]
end DL

namespace DL
open PySem L2 PySem.Spec

/-! ### a > b of ints or of tuples of ints -/
def gtLex (ns ms : List Int) : Bool := Ob.lexAt (fun j => decide (ns.getD j 0 = ms.getD j 0)) (fun j => decide (ms.getD j 0 < ns.getD j 0)) (decide (ns.length > ms.length)) 0 (min ns.length ms.length)
def rGtT (K : PySem.W.Frag) : R2 := fun x y H Q => ∃ (a b : Addr) (ns ms : List Int), x = .ref a ∧ y = .ref b ∧ SqT K H a (ns.map V.int) ∧ SqT K H b (ms.map V.int) ∧ Q (.bl (gtLex ns ms)) H
theorem op_gtT {X : Cx} (hu : X.A.units < cLine) : OpR X (compareOp .Gt) (rGtT X.K) := by
  intro pins s σ H x y v u Q I rx ry h
  obtain ⟨a, b, ns, ms, rfl, rfl, ha, hb, q⟩ := h
  cases rx
  cases ry
  obtain ⟨its, r1, p1, _⟩ := I.tuple ha
  obtain ⟨its2, r2, p2, _⟩ := I.tuple hb
  have i1 : PyProof.Rows.IntsAre its ns := Vals.ints r1
  have i2 : PyProof.Rows.IntsAre its2 ms := Vals.ints r2
  have e1 : its.toArray.size = ns.length := by rw [List.size_toArray]; exact i1.length
  have e2 : its2.toArray.size = ms.length := by rw [List.size_toArray]; exact i2.length
  have at1 : ∀ j (h1 : j < its.toArray.size), ∃ t, its.toArray[j] = .int (ns.getD j 0) t := fun j h1 => PyProof.Rows.IntsAre.int_at i1 _ _ (by simp at h1; simp [h1])
  have at2 : ∀ j (h1 : j < its2.toArray.size), ∃ t, its2.toArray[j] = .int (ms.getD j 0) t := fun j h1 => PyProof.Rows.IntsAre.int_at i2 _ _ (by simp at h1; simp [h1])
  have R := Ob.RcOp.tuples_gt (A := X.A) (s := s) (e := fun j => decide (ns.getD j 0 = ms.getD j 0)) (r := fun j => decide (ms.getD j 0 < ns.getD j 0)) p1 p2 hu (fun j h1 h2 => by
    obtain ⟨t, et⟩ := at1 j h1
    obtain ⟨t', et'⟩ := at2 j h2
    rw [et, et']
    have z : (ns.getD j 0 == ms.getD j 0) = decide (ns.getD j 0 = ms.getD j 0) := by
      by_cases q : ns.getD j 0 = ms.getD j 0
      · rw [decide_eq_true q]; exact beq_iff_eq.mpr q
      · rw [decide_eq_false q]; exact beq_eq_false_iff_ne.mpr q
    rw [← z]
    exact SeqAt.EqAt.int_int _ _ _ _) (fun j h1 h2 _ => by
    obtain ⟨t, et⟩ := at1 j h1
    obtain ⟨t', et'⟩ := at2 j h2
    rw [et, et']
    exact Ob.RcOp.gt_int _ _ _ _)
  rw [e1, e2] at R
  have z : wpAny (model X.prog X.w) X.A (compareOp .Gt (.ref a) (.ref b)) (EP X pins σ Q) X.xe s := R X.prog X.w X.xe (EP X pins σ Q) ⟨.bl _, H, I, rfl, q⟩
  exact z
def gtA (x y : D) : Option D := match x, y with
  | .int i, .int j => some (.bl (decide (j < i)))
  | .tup xs, .tup ys => (match D.asInts xs, D.asInts ys with
    | some ns, some ms => some (.bl (gtLex ns ms))
    | _, _ => none)
  | _, _ => none
section
variable {X : Cx} {W : WX} {a b : Expr} {fa fb : Ev} {pos : Pos}
def rGtA (K : PySem.W.Frag) : R2 := fun x y H Q => (rI0 fun i j => .bl (decide (j < i))) x y H Q ∨ rGtT K x y H Q
theorem op_gtA (hu : X.A.units < cLine) : OpR X (compareOp .Gt) (rGtA X.K) := op_gt.or (op_gtT hu)
theorem gtA_ok : Serves2 X.K gtA (rGtA X.K) := by
  intro S H v w dx dy Q hs r1 r2 p
  unfold gtA at p
  split at p
  · cases r1
    cases r2
    exact .inl ⟨_, _, rfl, rfl, p.val hs (.bl _)⟩
  · rename_i xs ys
    cases r1 with
    | tup h1 q1 =>
      cases r2 with
      | tup h2 q2 =>
        cases e1 : D.asInts xs with
        | none => rw [e1] at p; exact p.elim
        | some ns =>
          cases e2 : D.asInts ys with
          | none => rw [e1, e2] at p; exact p.elim
          | some ms =>
            rw [e1, e2] at p
            rw [asInts_of e1] at q1
            rw [asInts_of e2] at q2
            rw [q1.ints] at h1
            rw [q2.ints] at h2
            exact .inr ⟨_, _, ns, ms, rfl, rfl, Same.seqT hs h1, Same.seqT hs h2, p.val hs (.bl _)⟩
  · exact p.elim
theorem d_gtA (hu : X.A.units < cLine) (ha : PE X a (T X.K W fa)) (hb : PE X b (T X.K W fb)) : PE X (.Compare a [.Gt] [b] pos) (T X.K W (e2 gtA fa fb)) := d_cmp (op_gtA hu) gtA_ok (nomark _) ha hb
theorem t_gtA (hu : X.A.units < cLine) (ha : PE X a (T X.K W fa)) (hb : PE X b (T X.K W fb)) : PT X (.Compare a [.Gt] [b] pos) (TB X.K W (tst0 (e2 gtA fa fb))) := t_cmp (op_gtA hu) gtA_ok (nomark _) ha hb
end
theorem uLt {u : Nat} (h : u + 64 < cLine) : u < cLine := by omega
theorem gtA_int {m n : Int} : gtA (.int m) (.int n) = some (.bl (decide (n < m))) := id rfl
theorem gtLex2 (a b c d : Int) : gtLex [a, b] [c, d] = if a = c then decide (d < b) else decide (c < a) := by
  unfold gtLex
  have e0 : min [a, b].length [c, d].length = 2 := rfl
  rw [e0, Ob.lexAt_succ, Ob.lexAt_succ, Ob.lexAt_zero]
  simp only [List.getD_cons_zero, List.getD_cons_succ, decide_eq_true_eq]
  by_cases h : a = c
  · rw [if_pos h, if_pos h]
    by_cases h2 : b = d
    · rw [if_pos h2]; subst h2; simp
    · rw [if_neg h2]
  · rw [if_neg h, if_neg h]
theorem gtA_2 {a b c d : Int} : gtA (.tup [.int a, .int b]) (.tup [.int c, .int d]) = some (.bl (if a = c then decide (d < b) else decide (c < a))) := by
  show some (D.bl (gtLex [a, b] [c, d])) = _
  rw [gtLex2]
end DL

namespace DL
open PySem L2
local macro_rules
  | `(tactic| simp_arith [$xs,*]) => `(tactic| simp (config := {failIfUnchanged := false}) only [o0, o1, o2, o3, o4, o5, o6, o7, o8, o9, o10, o11, o12, o13, o14, o15, o16, o17, o18, o19, o20, o21, o22, o23, o24, o25, o26, o27, o28, o29, o30, o31, o32, o33, o34, o35, o36, o37, o38, o39, o40, o41, o42, o43, o44, o45, o46, o47, o48, at_seq, at_skip, at_asg, own_new, at_own, at_drop, at_ret, at_retN, rO_own, at_retOwn, at_if, at_brk, at_cnt, at_raise, ooS_some, unp1_tup, at_unp, setAll_nil, setAll_cons, par1_ok, par1_err, at_par2, frz1_own, frz1_v, at_frz, app0_own, at_app, app1_ok, pop0_own, at_pop, clr0_own, at_clr, aug0_int, aug1_int, at_aug, at_for, for_nil, gnx_some, for_cons, at_gN, at_gU,  at_e1, at_e2, at_st, vO_v, vO_own, at_var, at_c, settle_non, settle_bl, settle_int, settle_str, settle_lst, settle_tup, settle_frz, settle_new, add_int, add_str, add_tup, add_lst_lst, add_lst_new, add_lst_bor, add_new_lst, add_new_new, add_new_bor, add_bor_lst, add_bor_new, add_bor_bor, sub_int, mul_r, mul_l, fdiv_p, mod_p, pow_p, neg_int, lt_int, le_int, gt_int, ge_int, is_bl, ni_bl, is_n_non, ni_n_non, is_n_bl, ni_n_bl, is_n_int, ni_n_int, is_n_str, ni_n_str, is_n_lst, ni_n_lst, is_n_tup, ni_n_tup, is_n_new, ni_n_new, is_n_bor, ni_n_bor, items_lst, len_lst, list_lst, tuple_lst, ix_lst, tru_lst, rev_lst, slice_lst, ty_lst, sum_lst, all_lst, any_lst, items_new, len_new, list_new, tuple_new, ix_new, tru_new, rev_new, slice_new, ty_new, sum_new, all_new, any_new, items_bor, len_bor, list_bor, tuple_bor, ix_bor, tru_bor, rev_bor, slice_bor, ty_bor, sum_bor, all_bor, any_bor, len_tup, len_frz, len_str, list_tup, list_frz, tuple_tup, ix_tup, tru_tup, tru_bl, tru_int, tru_non, slice_tup, slice_frz, revT_tup, int_int, int_bl, abs_int, max_int, min_int, blO_bl, ty_non, ty_bl, ty_int, ty_str, ty_tup, at_tst, at_tst0, nB_ok, nB_err, at_notB, at_andB, at_orB, at_andE, at_orE, nE_ok, nE_err, at_notE, at_ifE, at_nilA, at_consA, tupL_ok, lstL_ok, at_tup, at_lst, callL_0, callL_1, callL_2, callL_3, callL_4, callL_5, at_call, at_chK, at_ch2, at_ch0, chR_ok, at_ch, at_isi, obl_some, isi1_at, kit2_t, kit2_f, at_kitT2, slc_ok, at_slice, at_noO, soO_int, at_someO, sq1_tup, sq1_lst, bl1_ok, bl1_err, bl1_st, at_seqI, rg1_int, at_rng1, rg2_int, rg0_ok, at_rng2, lc0_ok, at_lc, wipe_nil, wipe_cons, at_yes, kitT_int_int, kitT_int_bool, kitT_int_str, kitT_int_list, kitT_int_tuple, kitT_int_none, kitT_bool_int, kitT_bool_bool, kitT_bool_str, kitT_bool_list, kitT_bool_tuple, kitT_bool_none, kitT_tuple_int, kitT_tuple_bool, kitT_tuple_str, kitT_tuple_list, kitT_tuple_tuple, kitT_tuple_none, kitT_list_int, kitT_list_bool, kitT_list_str, kitT_list_list, kitT_list_tuple, kitT_list_none, kitT_str_int, kitT_str_bool, kitT_str_str, kitT_str_list, kitT_str_tuple, kitT_str_none, eqD_int, neD_int, eqD_bl, neD_bl, List.map_cons, List.map_nil, List.replicate, List.cons_append, List.nil_append, List.set_cons_zero, List.set_cons_succ, List.getElem?_cons_zero, List.getElem?_cons_succ, List.length_cons, List.length_nil, List.length_map, List.length_range, bind_ok, bind_err, bind_st, ofO_some, ofO_none, then_ok, then_err, then_st, Option.bind_some, Option.bind_none, Option.map_some, Option.map_none, Nat.zero_add, Nat.reduceAdd, Nat.reduceLeDiff, Nat.reduceEqDiff, ite_true, ite_false, if_true, if_false, reduceIte, Bool.not_true, Bool.not_false, Bool.false_eq_true, decide_eq_true_eq, Bool.not_eq_true, Int.reduceLT, Int.reduceLE, Int.reduceNeg, Int.reduceToNat, Int.reducePow, Int.reduceEq, Int.reduceAdd, Int.reduceSub, Int.reduceMul, Nat.reduceLT, decide_true, decide_false, $xs,*])
local macro_rules
  | `(tactic| simp_arith) => `(tactic| simp (config := {failIfUnchanged := false}) only [o0, o1, o2, o3, o4, o5, o6, o7, o8, o9, o10, o11, o12, o13, o14, o15, o16, o17, o18, o19, o20, o21, o22, o23, o24, o25, o26, o27, o28, o29, o30, o31, o32, o33, o34, o35, o36, o37, o38, o39, o40, o41, o42, o43, o44, o45, o46, o47, o48, at_seq, at_skip, at_asg, own_new, at_own, at_drop, at_ret, at_retN, rO_own, at_retOwn, at_if, at_brk, at_cnt, at_raise, ooS_some, unp1_tup, at_unp, setAll_nil, setAll_cons, par1_ok, par1_err, at_par2, frz1_own, frz1_v, at_frz, app0_own, at_app, app1_ok, pop0_own, at_pop, clr0_own, at_clr, aug0_int, aug1_int, at_aug, at_for, for_nil, gnx_some, for_cons, at_gN, at_gU,  at_e1, at_e2, at_st, vO_v, vO_own, at_var, at_c, settle_non, settle_bl, settle_int, settle_str, settle_lst, settle_tup, settle_frz, settle_new, add_int, add_str, add_tup, add_lst_lst, add_lst_new, add_lst_bor, add_new_lst, add_new_new, add_new_bor, add_bor_lst, add_bor_new, add_bor_bor, sub_int, mul_r, mul_l, fdiv_p, mod_p, pow_p, neg_int, lt_int, le_int, gt_int, ge_int, is_bl, ni_bl, is_n_non, ni_n_non, is_n_bl, ni_n_bl, is_n_int, ni_n_int, is_n_str, ni_n_str, is_n_lst, ni_n_lst, is_n_tup, ni_n_tup, is_n_new, ni_n_new, is_n_bor, ni_n_bor, items_lst, len_lst, list_lst, tuple_lst, ix_lst, tru_lst, rev_lst, slice_lst, ty_lst, sum_lst, all_lst, any_lst, items_new, len_new, list_new, tuple_new, ix_new, tru_new, rev_new, slice_new, ty_new, sum_new, all_new, any_new, items_bor, len_bor, list_bor, tuple_bor, ix_bor, tru_bor, rev_bor, slice_bor, ty_bor, sum_bor, all_bor, any_bor, len_tup, len_frz, len_str, list_tup, list_frz, tuple_tup, ix_tup, tru_tup, tru_bl, tru_int, tru_non, slice_tup, slice_frz, revT_tup, int_int, int_bl, abs_int, max_int, min_int, blO_bl, ty_non, ty_bl, ty_int, ty_str, ty_tup, at_tst, at_tst0, nB_ok, nB_err, at_notB, at_andB, at_orB, at_andE, at_orE, nE_ok, nE_err, at_notE, at_ifE, at_nilA, at_consA, tupL_ok, lstL_ok, at_tup, at_lst, callL_0, callL_1, callL_2, callL_3, callL_4, callL_5, at_call, at_chK, at_ch2, at_ch0, chR_ok, at_ch, at_isi, obl_some, isi1_at, kit2_t, kit2_f, at_kitT2, slc_ok, at_slice, at_noO, soO_int, at_someO, sq1_tup, sq1_lst, bl1_ok, bl1_err, bl1_st, at_seqI, rg1_int, at_rng1, rg2_int, rg0_ok, at_rng2, lc0_ok, at_lc, wipe_nil, wipe_cons, at_yes, kitT_int_int, kitT_int_bool, kitT_int_str, kitT_int_list, kitT_int_tuple, kitT_int_none, kitT_bool_int, kitT_bool_bool, kitT_bool_str, kitT_bool_list, kitT_bool_tuple, kitT_bool_none, kitT_tuple_int, kitT_tuple_bool, kitT_tuple_str, kitT_tuple_list, kitT_tuple_tuple, kitT_tuple_none, kitT_list_int, kitT_list_bool, kitT_list_str, kitT_list_list, kitT_list_tuple, kitT_list_none, kitT_str_int, kitT_str_bool, kitT_str_str, kitT_str_list, kitT_str_tuple, kitT_str_none, eqD_int, neD_int, eqD_bl, neD_bl, List.map_cons, List.map_nil, List.replicate, List.cons_append, List.nil_append, List.set_cons_zero, List.set_cons_succ, List.getElem?_cons_zero, List.getElem?_cons_succ, List.length_cons, List.length_nil, List.length_map, List.length_range, bind_ok, bind_err, bind_st, ofO_some, ofO_none, then_ok, then_err, then_st, Option.bind_some, Option.bind_none, Option.map_some, Option.map_none, Nat.zero_add, Nat.reduceAdd, Nat.reduceLeDiff, Nat.reduceEqDiff, ite_true, ite_false, if_true, if_false, reduceIte, Bool.not_true, Bool.not_false, Bool.false_eq_true, decide_eq_true_eq, Bool.not_eq_true, Int.reduceLT, Int.reduceLE, Int.reduceNeg, Int.reduceToNat, Int.reducePow, Int.reduceEq, Int.reduceAdd, Int.reduceSub, Int.reduceMul, Nat.reduceLT, decide_true, decide_false])

/-! ### two circles -/
/-- small enough to be multiplied -/
def sm (i : Int) : Prop := -1000000000000000000000000000000 ≤ i ∧ i ≤ 1000000000000000000000000000000
theorem sm_bits {i : Int} (h : sm i) : Builtin.Int.intBits i ≤ 200 := by
  unfold Builtin.Int.intBits
  unfold sm at h
  split
  · omega
  · have h1 : i.natAbs < 2 ^ 199 := by
      have : (i.natAbs : Int) ≤ 1000000000000000000000000000000 := by omega
      have e : (1000000000000000000000000000000 : Nat) < 2 ^ 199 := by decide
      omega
    rcases Nat.eq_zero_or_pos i.natAbs with e | e
    · rw [e]; decide
    · have := (Nat.log2_lt (by omega)).mpr h1
      omega
theorem mul_sm {m n : Int} (h1 : sm m) (h2 : sm n) : mulD (.int m) (.int n) = some (.int (m * n)) := by
  refine mul_x (.inr ?_)
  have := sm_bits h1
  have := sm_bits h2
  omega
theorem C4.sms {p : C4} (h : p.le 1000000000000000000000000000000) : sm p.b ∧ sm p.c ∧ sm p.x ∧ sm p.y := h
theorem cir_sm {d : D} {p : C4} (i : IsC d p) (h : p.le 1000000000000000000000000000000) : runF 4 cirB [d] = .ok (.bl p.one) := by
  obtain ⟨h1, h2, h3, h4⟩ := C4.sms h
  have e2 : (((4 : Nat) : Int) != 4) = false := rfl
  cases i <;> simp_arith [at_run, cirB, at_unpA, unp1A_tup, unp1A_lst, mul_sm, h1, h2, h3, h4, e2, C4.one]
def dbl (p q : C4) : Int := 2 * (p.x * q.x + p.y * q.y) - (p.b * q.c + q.b * p.c)
theorem dbl_comm (p q : C4) : dbl q p = dbl p q := by unfold dbl; grind
theorem dbl_neg (p q : C4) : dbl p (negM q) = - dbl p q := by unfold dbl negM; simp only; grind
theorem dbl_self {p : C4} (h : p.one = true) : dbl p p = 2 := by
  unfold C4.one at h
  rw [beq_iff_eq] at h
  unfold dbl
  omega
def dblB : Es := (seqS (unpAS [2, 3, 4, 5] (varE 0))
  (seqS (unpAS [6, 7, 8, 9] (varE 1))
  (retS (e2 subD (e2 mulD (cE (.int 2)) (e2 addD (e2 mulD (varE 4) (varE 8)) (e2 mulD (varE 5) (varE 9)))) (e2 addD (e2 mulD (varE 2) (varE 7)) (e2 mulD (varE 6) (varE 3)))))))
theorem dblB_ok {d e : D} {p q : C4} (i : IsC d p) (j : IsC e q) (h : p.le 1000000000000000000000000000000) (g : q.le 1000000000000000000000000000000) : runF 8 dblB [d, e] = .ok (.int (dbl p q)) := by
  obtain ⟨h1, h2, h3, h4⟩ := C4.sms h
  obtain ⟨g1, g2, g3, g4⟩ := C4.sms g
  cases i <;> cases j <;> simp_arith [at_run, dblB, at_unpA, unp1A_tup, unp1A_lst, mul_sm, h1, h2, h3, h4, g1, g2, g3, g4, dbl]
def ldvB : Es := (retS (e2 subD (e2 subD (e2 mulD (cE (.int 2)) (e2 addD (e2 mulD (e2 ixD (varE 0) (cE (.int 2))) (e2 ixD (varE 1) (cE (.int 2)))) (e2 mulD (e2 ixD (varE 0) (cE (.int 3))) (e2 ixD (varE 1) (cE (.int 3)))))) (e2 mulD (e2 ixD (varE 0) (cE (.int 0))) (e2 ixD (varE 1) (cE (.int 1))))) (e2 mulD (e2 ixD (varE 0) (cE (.int 1))) (e2 ixD (varE 1) (cE (.int 0))))))
theorem ldv_ok {p q : C4} (h : p.le 1000000000000000000000000000000) (g : q.le 1000000000000000000000000000000) : runF 0 ldvB [.tup [.int p.b, .int p.c, .int p.x, .int p.y], .tup [.int q.b, .int q.c, .int q.x, .int q.y]] = .ok (.int (dbl p q)) := by
  obtain ⟨h1, h2, h3, h4⟩ := C4.sms h
  obtain ⟨g1, g2, g3, g4⟩ := C4.sms g
  simp_arith [at_run, ldvB, at4_0, at4_1, at4_2, at4_3, mul_sm, h1, h2, h3, h4, g1, g2, g3, g4]
  have : p.c * q.b = q.b * p.c := Int.mul_comm _ _
  unfold dbl
  rw [this, Int.sub_sub]
def outw (p q : C4) : Bool := decide (0 < p.b + q.b) || ((p.b + q.b == 0) && decide (0 < p.c + q.c))
theorem outw_comm (p q : C4) : outw q p = outw p q := by unfold outw; rw [Int.add_comm q.b, Int.add_comm q.c]
theorem outw_lex (p q : C4) : (if p.b + q.b = 0 then decide (0 < p.c + q.c) else decide (0 < p.b + q.b)) = outw p q := by
  unfold outw
  by_cases h : p.b + q.b = 0
  · rw [if_pos h, h]; simp
  · have e : (p.b + q.b == 0) = false := by simp [h]
    rw [if_neg h, e]; simp
def outB : Es := (seqS (asgS 2 (e2 addD (e2 ixD (varE 0) (cE (.int 0))) (e2 ixD (varE 1) (cE (.int 0)))))
  (retS (orE (e2 gtD (varE 2) (cE (.int 0))) (andE (e2 eqD (varE 2) (cE (.int 0))) (e2 gtD (e2 addD (e2 ixD (varE 0) (cE (.int 1))) (e2 ixD (varE 1) (cE (.int 1)))) (cE (.int 0)))))))
theorem out_ok {d e : D} {p q : C4} (i : IsC d p) (j : IsC e q) : runF 1 outB [d, e] = .ok (.bl (outw p q)) := by
  unfold outw
  by_cases h : 0 < p.b + q.b
  · cases i <;> cases j <;> simp_arith [at_run, outB, at4_0, at4_1, h, Bool.true_or]
  · cases h2 : (p.b + q.b == 0) with
    | true => cases i <;> cases j <;> simp_arith [at_run, outB, at4_0, at4_1, h, h2, Bool.true_and, Bool.false_or]
    | false => cases i <;> cases j <;> simp_arith [at_run, outB, at4_0, at4_1, h, h2, Bool.false_and, Bool.false_or]
theorem eqD_4 (a b c d a' b' c' d' : Int) : eqD (.tup [.int a, .int b, .int c, .int d]) (.tup [.int a', .int b', .int c', .int d']) = some (.bl ([a, b, c, d] == [a', b', c', d'])) := by
  show eqD (.tup (il [a, b, c, d])) (.tup (il [a', b', c', d'])) = _
  unfold eqD
  rw [okEq_ints_t, okEq_ints_t, D.py, D.py, PyData.eqv, eqv_ints]
  rfl
def C4.ls (p : C4) : List Int := [p.b, p.c, p.x, p.y]
/-- how two circles stand -/
def relS (p q : C4) : Str :=
  if (p.ls == q.ls) = true then "same" else if ((negM p).ls == q.ls) = true then "opposite"
  else if dbl p q = -2 then (if outw p q = true then "touch" else "touch around")
  else if dbl p q < -2 then (if outw p q = true then "apart" else "around")
  else if dbl p q = 2 then "touch inside" else if 2 < dbl p q then "nested" else "cross"
theorem eqD_str {s t : Str} (h : okS s) (g : okS t) : eqD (.str s) (.str t) = some (.bl (s == t)) := by
  unfold eqD
  rw [okEq_str h, okEq_str g, D.py, D.py, PyData.eqv]
  rfl
theorem neD_str {s t : Str} (h : okS s) (g : okS t) : neD (.str s) (.str t) = some (.bl (!(s == t))) := by
  unfold neD
  rw [okEq_str h, okEq_str g, D.py, D.py, PyData.eqv]
  rfl
theorem okS_lit {s : String} (h : (Str.ofString s).cps.toList.all (fun c => decide (c < 0x110000)) = true := by decide) : okS (Str.ofString s) := fun c m => by
  have := List.all_eq_true.mp h c m
  exact of_decide_eq_true this
theorem relS_ok (p q : C4) : okS (relS p q) := by
  unfold relS
  repeat' split
  all_goals exact okS_lit

/-! the program's two circles -/
def ck2B (chk : List D → Res D) : Es := (seqS (dropS (callE 1 chk (consA (varE 0) nilA)))
  (dropS (callE 1 chk (consA (varE 1) nilA))))
section
variable {chk ck2 dbo tch out opp ldo lop : List D → Res D} {d e : D} {p q : C4} {x : Ex}
theorem ck2_ok (hd : D.settle d = some d) (he : D.settle e = some e) (h : chk [d] = .ok .non) (g : chk [e] = .ok .non) : runF 0 (ck2B chk) [d, e] = .ok .non := by simp_arith [at_run, ck2B, hd, he, h, g]
theorem ck2_no1 (hd : D.settle d = some d) (h : chk [d] = .err x) : runF 0 (ck2B chk) [d, e] = .err x := by simp_arith [at_run, ck2B, hd, h]
theorem ck2_no2 (hd : D.settle d = some d) (he : D.settle e = some e) (h : chk [d] = .ok .non) (g : chk [e] = .err x) : runF 0 (ck2B chk) [d, e] = .err x := by simp_arith [at_run, ck2B, hd, he, h, g]
def dobB (ck2 dbo : List D → Res D) : Es := (seqS (dropS (callE 2 ck2 (consA (varE 0) (consA (varE 1) nilA))))
  (retS (callE 2 dbo (consA (varE 0) (consA (varE 1) nilA)))))
theorem dob_ok (hd : D.settle d = some d) (he : D.settle e = some e) (h : ck2 [d, e] = .ok .non) {n : Int} (g : dbo [d, e] = .ok (.int n)) : runF 0 (dobB ck2 dbo) [d, e] = .ok (.int n) := by simp_arith [at_run, dobB, hd, he, h, g]
theorem dob_no (hd : D.settle d = some d) (he : D.settle e = some e) (h : ck2 [d, e] = .err x) : runF 0 (dobB ck2 dbo) [d, e] = .err x := by simp_arith [at_run, dobB, hd, he, h]
theorem dob_bl (hd : D.settle d = some d) (he : D.settle e = some e) (h : ck2 [d, e] = .ok .non) {b : Bool} (g : dbo [d, e] = .ok (.bl b)) : runF 0 (dobB ck2 dbo) [d, e] = .ok (.bl b) := by simp_arith [at_run, dobB, hd, he, h, g]
def tchB (dbo out : List D → Res D) : Es := (retS (andE (e2 eqD (callE 2 dbo (consA (varE 0) (consA (varE 1) nilA))) (e1 negD (cE (.int 2)))) (callE 2 out (consA (varE 0) (consA (varE 1) nilA)))))
def tchV (p q : C4) : Bool := (dbl p q == -2) && outw p q
theorem tch_ok (hd : D.settle d = some d) (he : D.settle e = some e) (g : dbo [d, e] = .ok (.int (dbl p q))) (h : out [d, e] = .ok (.bl (outw p q))) : runF 0 (tchB dbo out) [d, e] = .ok (.bl (tchV p q)) := by
  unfold tchV
  cases z : (dbl p q == -2) with
  | true => simp_arith [at_run, tchB, hd, he, g, h, z, Bool.true_and]
  | false => simp_arith [at_run, tchB, hd, he, g, z, Bool.false_and]
def relB (ck2 opp dbo out : List D → Res D) : Es := (seqS (dropS (callE 2 ck2 (consA (varE 0) (consA (varE 1) nilA))))
  (seqS (ifS (tst0 (e2 eqD (e1 tupleD (varE 0)) (e1 tupleD (varE 1))))
  (retS (cE (.str "same")))
  skipS)
  (seqS (ifS (tst0 (e2 eqD (callE 1 opp (consA (varE 0) nilA)) (e1 tupleD (varE 1))))
  (retS (cE (.str "opposite")))
  skipS)
  (seqS (asgS 2 (callE 2 dbo (consA (varE 0) (consA (varE 1) nilA))))
  (seqS (ifS (tst0 (e2 eqD (varE 2) (e1 negD (cE (.int 2)))))
  (retS (ifE (tstE (callE 2 out (consA (varE 0) (consA (varE 1) nilA)))) (cE (.str "touch")) (cE (.str "touch around"))))
  skipS)
  (seqS (ifS (tst0 (e2 ltD (varE 2) (e1 negD (cE (.int 2)))))
  (retS (ifE (tstE (callE 2 out (consA (varE 0) (consA (varE 1) nilA)))) (cE (.str "apart")) (cE (.str "around"))))
  skipS)
  (seqS (ifS (tst0 (e2 eqD (varE 2) (cE (.int 2))))
  (retS (cE (.str "touch inside")))
  skipS)
  (retS (ifE (tst0 (e2 gtD (varE 2) (cE (.int 2)))) (cE (.str "nested")) (cE (.str "cross")))))))))))
theorem rel_no (hd : D.settle d = some d) (he : D.settle e = some e) (h : ck2 [d, e] = .err x) : runF 1 (relB ck2 opp dbo out) [d, e] = .err x := by simp_arith [at_run, relB, hd, he, h]
theorem rel_ok (i : IsC d p) (j : IsC e q) (h : ck2 [d, e] = .ok .non) (ho : opp [d] = .ok (negM p).d) (g : dbo [d, e] = .ok (.int (dbl p q))) (hu : out [d, e] = .ok (.bl (outw p q))) : runF 1 (relB ck2 opp dbo out) [d, e] = .ok (.str (relS p q)) := by
  have hd := i.set
  have he := j.set
  unfold C4.d at ho
  have tp : tupleD d = some (.tup [.int p.b, .int p.c, .int p.x, .int p.y]) := by cases i <;> rfl
  have tq : tupleD e = some (.tup [.int q.b, .int q.c, .int q.x, .int q.y]) := by cases j <;> rfl
  unfold relS
  cases z1 : (p.ls == q.ls) with
  | true =>
    unfold C4.ls at z1
    simp_arith [at_run, relB, hd, he, h, tp, tq, eqD_4, z1]
  | false =>
    cases z2 : ((negM p).ls == q.ls) with
    | true =>
      unfold C4.ls at z1 z2
      simp_arith [at_run, relB, hd, he, h, tp, tq, eqD_4, z1, ho, z2]
    | false =>
      unfold C4.ls at z1 z2
      by_cases z3 : dbl p q = -2
      · have e3 : (dbl p q == -2) = true := by simp [z3]
        have z3' := eq_true z3
        cases z4 : outw p q <;> simp_arith [at_run, relB, hd, he, h, tp, tq, eqD_4, z1, ho, z2, g, e3, hu, z4, z3']
      · have e3 : (dbl p q == -2) = false := by simp [z3]
        by_cases z5 : dbl p q < -2
        · cases z4 : outw p q <;> simp_arith [at_run, relB, hd, he, h, tp, tq, eqD_4, z1, ho, z2, g, e3, hu, z4, z3, z5]
        · by_cases z6 : dbl p q = 2
          · have e6 : (dbl p q == 2) = true := by simp [z6]
            have z6' := eq_true z6
            simp_arith [at_run, relB, hd, he, h, tp, tq, eqD_4, z1, ho, z2, g, e3, z3, z5, e6, z6']
          · have e6 : (dbl p q == 2) = false := by simp [z6]
            by_cases z7 : 2 < dbl p q <;> simp_arith [at_run, relB, hd, he, h, tp, tq, eqD_4, z1, ho, z2, g, e3, z3, z5, e6, z6, z7]
def lreB (ldo lop : List D → Res D) : Es := (seqS (asgS 2 (callE 2 ldo (consA (varE 0) (consA (varE 1) nilA))))
  (seqS (ifS (tst0 (e2 eqD (varE 0) (varE 1)))
  (retS (cE (.str "same")))
  skipS)
  (seqS (ifS (tst0 (e2 eqD (varE 0) (callE 1 lop (consA (varE 1) nilA))))
  (retS (cE (.str "opposite")))
  skipS)
  (seqS (asgS 3 (e2 gtA (tupE (consA (e2 addD (e2 ixD (varE 0) (cE (.int 0))) (e2 ixD (varE 1) (cE (.int 0)))) (consA (e2 addD (e2 ixD (varE 0) (cE (.int 1))) (e2 ixD (varE 1) (cE (.int 1)))) nilA))) (tupE (consA (cE (.int 0)) (consA (cE (.int 0)) nilA)))))
  (seqS (ifS (tst0 (e2 eqD (varE 2) (e1 negD (cE (.int 2)))))
  (retS (e2 ixD (lstE (consA (cE (.str "touch around")) (consA (cE (.str "touch")) nilA))) (e1 intD (varE 3))))
  skipS)
  (seqS (ifS (tst0 (e2 ltD (varE 2) (e1 negD (cE (.int 2)))))
  (retS (e2 ixD (lstE (consA (cE (.str "around")) (consA (cE (.str "apart")) nilA))) (e1 intD (varE 3))))
  skipS)
  (seqS (ifS (tst0 (e2 gtA (varE 2) (cE (.int 2))))
  (retS (cE (.str "nested")))
  skipS)
  (retS (e2 ixD (lstE (consA (cE (.str "cross")) (consA (cE (.str "touch inside")) nilA))) (e1 intD (e2 eqD (varE 2) (cE (.int 2)))))))))))))
theorem neg_ls (p q : C4) : (p.ls == (negM q).ls) = ((negM p).ls == q.ls) := by
  have h : (p.ls = (negM q).ls) ↔ ((negM p).ls = q.ls) := by
    unfold C4.ls negM
    simp only [List.cons.injEq, and_true]
    omega
  by_cases z : p.ls = (negM q).ls
  · rw [beq_iff_eq.mpr z, beq_iff_eq.mpr (h.mp z)]
  · rw [beq_eq_false_iff_ne.mpr z, beq_eq_false_iff_ne.mpr fun w => z (h.mpr w)]
theorem ls_comm (p q : C4) : (q.ls == p.ls) = (p.ls == q.ls) := by
  by_cases z : p.ls = q.ls
  · rw [beq_iff_eq.mpr z, beq_iff_eq.mpr z.symm]
  · rw [beq_eq_false_iff_ne.mpr z, beq_eq_false_iff_ne.mpr fun w => z w.symm]
theorem relS_comm (p q : C4) : relS q p = relS p q := by
  unfold relS
  rw [ls_comm p q, dbl_comm, outw_comm, ls_comm p (negM q), neg_ls p q]
theorem at2_0 {a b : D} : L2.atI [a, b] 0 = some a := id rfl
theorem at2_1 {a b : D} : L2.atI [a, b] 1 = some b := id rfl
theorem lre_ok (g : ldo [.tup [.int p.b, .int p.c, .int p.x, .int p.y], .tup [.int q.b, .int q.c, .int q.x, .int q.y]] = .ok (.int (dbl p q))) (ho : lop [.tup [.int q.b, .int q.c, .int q.x, .int q.y]] = .ok (negM q).d) :
    runF 2 (lreB ldo lop) [.tup [.int p.b, .int p.c, .int p.x, .int p.y], .tup [.int q.b, .int q.c, .int q.x, .int q.y]] = .ok (.str (relS p q)) := by
  unfold C4.d at ho
  have hl := outw_lex p q
  unfold relS
  have zz := neg_ls p q
  cases z1 : (p.ls == q.ls) with
  | true =>
    unfold C4.ls at z1
    simp_arith [at_run, lreB, g, eqD_4, z1]
  | false =>
    cases z2 : ((negM p).ls == q.ls) with
    | true =>
      rw [z2] at zz
      unfold C4.ls at z1 z2 zz
      simp_arith [at_run, lreB, g, eqD_4, z1, ho, zz]
    | false =>
      rw [z2] at zz
      unfold C4.ls at z1 z2 zz
      by_cases z3 : dbl p q = -2
      · have e3 : (dbl p q == -2) = true := by simp [z3]
        have z3' := eq_true z3
        cases z4 : outw p q <;> (rw [z4] at hl; simp_arith [at_run, lreB, g, eqD_4, z1, ho, zz, e3, at4_0, at4_1, gtA_2, hl, at2_0, at2_1, z3'])
      · have e3 : (dbl p q == -2) = false := by simp [z3]
        by_cases z5 : dbl p q < -2
        · cases z4 : outw p q <;> (rw [z4] at hl; simp_arith [at_run, lreB, g, eqD_4, z1, ho, zz, e3, at4_0, at4_1, gtA_2, gtA_int, hl, at2_0, at2_1, z3, z5])
        · by_cases z6 : dbl p q = 2
          · have e6 : (dbl p q == 2) = true := by simp [z6]
            have z6' := eq_true z6
            have e7 : ¬ 2 < dbl p q := by omega
            simp_arith [at_run, lreB, g, eqD_4, z1, ho, zz, e3, at4_0, at4_1, gtA_2, gtA_int, hl, at2_0, at2_1, z3, z5, e6, e7, z6']
          · have e6 : (dbl p q == 2) = false := by simp [z6]
            by_cases z7 : 2 < dbl p q <;> simp_arith [at_run, lreB, g, eqD_4, z1, ho, zz, e3, at4_0, at4_1, gtA_2, gtA_int, hl, at2_0, at2_1, z3, z5, e6, z7, z6]
end
/-- a loop through states that are alike -/
theorem forO_inv {G : D → Rho → Option Rho} {b : Es} (I : Rho → Prop) : ∀ (ds : List D), (∀ d ∈ ds, ∀ ρ, I ρ → ∃ ρ1 ρ2, G d ρ = some ρ1 ∧ b ρ1 = .nx ρ2 ∧ I ρ2) → ∀ ρ, I ρ → ∃ ρ', forO G b ds ρ = .nx ρ' ∧ I ρ'
  | [], _, ρ, h => ⟨ρ, rfl, h⟩
  | d :: ds, hb, ρ, h => by
    obtain ⟨ρ1, ρ2, h1, h2, h3⟩ := hb d (List.mem_cons_self ..) ρ h
    obtain ⟨ρ', h4, h5⟩ := forO_inv I ds (fun d m => hb d (List.mem_cons_of_mem _ m)) ρ2 h3
    refine ⟨ρ', ?_, h5⟩
    rw [forO, h1]
    simp only [h2]
    exact h4
end DL


namespace DL
open PySem L2
/-! ### the text by places -/
def top (i : Nat) : Stmt := PySem.Challenge.pw_fourtouch_k01_doubles_and_relations.main.body.getD i (.Pass ⟨0, 0, 0, 0⟩)
abbrev s_is_circle : Stmt := top 4
abbrev s_check_circle : Stmt := top 5
abbrev s_check_two : Stmt := top 6
abbrev s_double_of : Stmt := top 8
abbrev s_double : Stmt := top 11
abbrev s_are_outward : Stmt := top 9
abbrev s_are_touching : Stmt := top 10
abbrev s_touch : Stmt := top 12
abbrev s_opposite : Stmt := top 7
abbrev s_relation : Stmt := top 13
abbrev s__law_row : Stmt := top 15
abbrev s__law_numbers : Stmt := top 16
abbrev s__law_other : Stmt := top 20
abbrev s__law_fallen : Stmt := top 21
abbrev s__law_given : Stmt := top 17
abbrev s__law_moved : Stmt := top 18
abbrev s__law_laid : Stmt := top 19
abbrev s__law_four : Stmt := top 22
abbrev s__law_double : Stmt := top 23
abbrev s__law_opposite : Stmt := top 25
abbrev s__law_relation : Stmt := top 26
abbrev s__law_refused : Stmt := top 27
abbrev s_law : Stmt := top 28
/-! ### what the top has made -/
structure Txt (K : PySem.W.Frag) (mg : Str → Option Value) (C_InvalidCircle : Addr) : Prop where
  z_len : mg "len" = none
  z_tuple : mg "tuple" = none
  z_abs : mg "abs" = none
  z_int : mg "int" = none
  z_range : mg "range" = none
  z_max : mg "max" = none
  z_sum : mg "sum" = none
  z_list : mg "list" = none
  z_isinstance : mg "isinstance" = none
  z_ValueError : mg "ValueError" = none
  z_bool : mg "bool" = none
  a_is_circle : At K mg "is_circle" s_is_circle ["circle"]
  a_check_circle : At K mg "check_circle" s_check_circle ["circle"]
  a_check_two : At K mg "check_two" s_check_two ["one", "other"]
  a_double_of : At K mg "double_of" s_double_of ["one", "other"]
  a_double : At K mg "double" s_double ["one", "other"]
  a_are_outward : At K mg "are_outward" s_are_outward ["one", "other"]
  a_are_touching : At K mg "are_touching" s_are_touching ["one", "other"]
  a_touch : At K mg "touch" s_touch ["one", "other"]
  a_opposite : At K mg "opposite" s_opposite ["circle"]
  a_relation : At K mg "relation" s_relation ["one", "other"]
  a__law_row : At K mg "_law_row" s__law_row ["cell", "many"]
  a__law_numbers : At K mg "_law_numbers" s__law_numbers ["script", "many"]
  a__law_other : At K mg "_law_other" s__law_other ["circles", "k"]
  a__law_fallen : At K mg "_law_fallen" s__law_fallen ["circles", "word"]
  a__law_given : At K mg "_law_given" s__law_given ["number"]
  a__law_moved : At K mg "_law_moved" s__law_moved ["circle", "s", "t"]
  a__law_laid : At K mg "_law_laid" s__law_laid ["numbers", "at", "circle"]
  a__law_four : At K mg "_law_four" s__law_four ["numbers", "at"]
  a__law_double : At K mg "_law_double" s__law_double ["one", "other"]
  a__law_opposite : At K mg "_law_opposite" s__law_opposite ["circle"]
  a__law_relation : At K mg "_law_relation" s__law_relation ["one", "other"]
  a__law_refused : At K mg "_law_refused" s__law_refused ["one", "other"]
  a_law : At K mg "law" s_law ["script"]
  e_InvalidCircle : Err K mg "InvalidCircle" C_InvalidCircle
  g_InvalidCircle : mg "InvalidCircle" = some (.ref C_InvalidCircle)
  xm_InvalidCircle_InvalidCircle : PySem.W.exmOne K (.ref C_InvalidCircle) (.ref C_InvalidCircle) = some true
  xc_InvalidCircle : ExcC K C_InvalidCircle
  kk_InvalidCircle_ValueError : PySem.W.kitOne K (.ref C_InvalidCircle) (.type "ValueError") = some true
section
variable {P : Program} {w : World} {K : PySem.W.Frag} {mg : Str → Option Value} {base : Heap} {C_InvalidCircle : Addr}
/-! is_circle -/
noncomputable def b_is_circle : Es := (seqS (ifS (tst0 (e2 neD (e1 lenD (varE 0)) (cE (.int 4))))
  (retS (cE (.bl false)))
  skipS)
  (seqS (unpAS [1, 2, 3, 4] (varE 0))
  (retS (e2 eqD (e2 subD (e2 addD (e2 mulD (varE 3) (varE 3)) (e2 mulD (varE 4) (varE 4))) (e2 mulD (varE 1) (varE 2))) (cE (.int 1))))))
noncomputable def F_is_circle : List D → Res D := runF 4 (b_is_circle)
theorem sc_is_circle : FnScope ["circle", "b", "c", "x", "y"] ["circle"] (defScope s_is_circle) := ⟨rfl, rfl, rfl, by decide +kernel, rfl, by decide +kernel, by decide +kernel⟩
theorem d_is_circle (T : Txt K mg C_InvalidCircle) : Def P w K mg base "is_circle" 1 1 (F_is_circle) :=
  Def.of (k := 0) T.a_is_circle sc_is_circle rfl (fun f cdv A outer s H E hr gd => by
    have nd := sc_is_circle.nd
    have tk := takes_of (X := cxOf (L2.CX P w) P w K mg base ["circle", "b", "c", "x", "y"] "is_circle" (defScope s_is_circle) f cdv A outer s H E) rfl rfl rfl rfl
    have hp := passes_of (X := cxOf (L2.CX P w) P w K mg base ["circle", "b", "c", "x", "y"] "is_circle" (defScope s_is_circle) f cdv A outer s H E) rfl
    exact s_cons (s_if (t_ne hr.units (d_len T.z_len (dv 0)) (d_int))
      (s_one (s_ret (d_bl)))
      (s_nil))
      (s_cons (s_unpA (is := [1, 2, 3, 4]) (dv 0) rfl (pgs_cons (pg_name (i := 1) nd rfl (by first | exact Or.inl rfl | exact Or.inr rfl)) (pgs_cons (pg_name (i := 2) nd rfl (by first | exact Or.inl rfl | exact Or.inr rfl)) (pgs_cons (pg_name (i := 3) nd rfl (by first | exact Or.inl rfl | exact Or.inr rfl)) (pgs_cons (pg_name (i := 4) nd rfl (by first | exact Or.inl rfl | exact Or.inr rfl)) (pgs_nil))))))
      (s_one (s_ret (d_eq hr.units (d_sub (d_add (d_mul (dv 3) (dv 3)) (d_mul (dv 4) (dv 4))) (d_mul (dv 1) (dv 2))) (d_int))))))
/-! check_circle -/
noncomputable def b_check_circle (C_InvalidCircle : Addr) : Es := (ifS (notB (tstE (callE 1 F_is_circle (consA (varE 0) nilA))))
  (raiseS ⟨.ref C_InvalidCircle, none⟩)
  skipS)
noncomputable def F_check_circle (C_InvalidCircle : Addr) : List D → Res D := runF 0 (b_check_circle C_InvalidCircle)
theorem sc_check_circle : FnScope ["circle"] ["circle"] (defScope s_check_circle) := ⟨rfl, rfl, rfl, by decide +kernel, rfl, by decide +kernel, by decide +kernel⟩
theorem d_check_circle (T : Txt K mg C_InvalidCircle) : Def P w K mg base "check_circle" 2 1 (F_check_circle C_InvalidCircle) :=
  Def.of (k := 1) T.a_check_circle sc_check_circle rfl (fun f cdv A outer s H E hr gd => by
    have nd := sc_check_circle.nd
    have tk := takes_of (X := cxOf (L2.CX P w) P w K mg base ["circle"] "check_circle" (defScope s_check_circle) f cdv A outer s H E) rfl rfl rfl rfl
    have hp := passes_of (X := cxOf (L2.CX P w) P w K mg base ["circle"] "check_circle" (defScope s_check_circle) f cdv A outer s H E) rfl
    exact s_one (s_if (t_not (t_val (d_call (d_is_circle T) hr (by decide) gd tk (a_cons (dv 0) (a_nil)))))
      (s_one (s_raise rfl tk (pmk_err T.e_InvalidCircle)))
      (s_nil)))
/-! check_two -/
noncomputable def b_check_two (C_InvalidCircle : Addr) : Es := (seqS (dropS (callE 1 (F_check_circle C_InvalidCircle) (consA (varE 0) nilA)))
  (dropS (callE 1 (F_check_circle C_InvalidCircle) (consA (varE 1) nilA))))
noncomputable def F_check_two (C_InvalidCircle : Addr) : List D → Res D := runF 0 (b_check_two C_InvalidCircle)
theorem sc_check_two : FnScope ["one", "other"] ["one", "other"] (defScope s_check_two) := ⟨rfl, rfl, rfl, by decide +kernel, rfl, by decide +kernel, by decide +kernel⟩
theorem d_check_two (T : Txt K mg C_InvalidCircle) : Def P w K mg base "check_two" 3 2 (F_check_two C_InvalidCircle) :=
  Def.of (k := 2) T.a_check_two sc_check_two rfl (fun f cdv A outer s H E hr gd => by
    have nd := sc_check_two.nd
    have tk := takes_of (X := cxOf (L2.CX P w) P w K mg base ["one", "other"] "check_two" (defScope s_check_two) f cdv A outer s H E) rfl rfl rfl rfl
    have hp := passes_of (X := cxOf (L2.CX P w) P w K mg base ["one", "other"] "check_two" (defScope s_check_two) f cdv A outer s H E) rfl
    exact s_cons (s_expr (d_call (d_check_circle T) hr (by decide) gd tk (a_cons (dv 0) (a_nil))))
      (s_one (s_expr (d_call (d_check_circle T) hr (by decide) gd tk (a_cons (dv 1) (a_nil))))))
/-! double_of -/
noncomputable def b_double_of : Es := (seqS (unpAS [2, 3, 4, 5] (varE 0))
  (seqS (unpAS [6, 7, 8, 9] (varE 1))
  (retS (e2 subD (e2 mulD (cE (.int 2)) (e2 addD (e2 mulD (varE 4) (varE 8)) (e2 mulD (varE 5) (varE 9)))) (e2 addD (e2 mulD (varE 2) (varE 7)) (e2 mulD (varE 6) (varE 3)))))))
noncomputable def F_double_of : List D → Res D := runF 8 (b_double_of)
theorem sc_double_of : FnScope ["one", "other", "b", "c", "x", "y", "d", "e", "z", "w"] ["one", "other"] (defScope s_double_of) := ⟨rfl, rfl, rfl, by decide +kernel, rfl, by decide +kernel, by decide +kernel⟩
theorem d_double_of (T : Txt K mg C_InvalidCircle) : Def P w K mg base "double_of" 1 2 (F_double_of) :=
  Def.of (k := 0) T.a_double_of sc_double_of rfl (fun f cdv A outer s H E hr gd => by
    have nd := sc_double_of.nd
    have tk := takes_of (X := cxOf (L2.CX P w) P w K mg base ["one", "other", "b", "c", "x", "y", "d", "e", "z", "w"] "double_of" (defScope s_double_of) f cdv A outer s H E) rfl rfl rfl rfl
    have hp := passes_of (X := cxOf (L2.CX P w) P w K mg base ["one", "other", "b", "c", "x", "y", "d", "e", "z", "w"] "double_of" (defScope s_double_of) f cdv A outer s H E) rfl
    exact s_cons (s_unpA (is := [2, 3, 4, 5]) (dv 0) rfl (pgs_cons (pg_name (i := 2) nd rfl (by first | exact Or.inl rfl | exact Or.inr rfl)) (pgs_cons (pg_name (i := 3) nd rfl (by first | exact Or.inl rfl | exact Or.inr rfl)) (pgs_cons (pg_name (i := 4) nd rfl (by first | exact Or.inl rfl | exact Or.inr rfl)) (pgs_cons (pg_name (i := 5) nd rfl (by first | exact Or.inl rfl | exact Or.inr rfl)) (pgs_nil))))))
      (s_cons (s_unpA (is := [6, 7, 8, 9]) (dv 1) rfl (pgs_cons (pg_name (i := 6) nd rfl (by first | exact Or.inl rfl | exact Or.inr rfl)) (pgs_cons (pg_name (i := 7) nd rfl (by first | exact Or.inl rfl | exact Or.inr rfl)) (pgs_cons (pg_name (i := 8) nd rfl (by first | exact Or.inl rfl | exact Or.inr rfl)) (pgs_cons (pg_name (i := 9) nd rfl (by first | exact Or.inl rfl | exact Or.inr rfl)) (pgs_nil))))))
      (s_one (s_ret (d_sub (d_mul (d_int) (d_add (d_mul (dv 4) (dv 8)) (d_mul (dv 5) (dv 9)))) (d_add (d_mul (dv 2) (dv 7)) (d_mul (dv 6) (dv 3))))))))
/-! double -/
noncomputable def b_double (C_InvalidCircle : Addr) : Es := (seqS (dropS (callE 2 (F_check_two C_InvalidCircle) (consA (varE 0) (consA (varE 1) nilA))))
  (retS (callE 2 F_double_of (consA (varE 0) (consA (varE 1) nilA)))))
noncomputable def F_double (C_InvalidCircle : Addr) : List D → Res D := runF 0 (b_double C_InvalidCircle)
theorem sc_double : FnScope ["one", "other"] ["one", "other"] (defScope s_double) := ⟨rfl, rfl, rfl, by decide +kernel, rfl, by decide +kernel, by decide +kernel⟩
theorem d_double (T : Txt K mg C_InvalidCircle) : Def P w K mg base "double" 4 2 (F_double C_InvalidCircle) :=
  Def.of (k := 3) T.a_double sc_double rfl (fun f cdv A outer s H E hr gd => by
    have nd := sc_double.nd
    have tk := takes_of (X := cxOf (L2.CX P w) P w K mg base ["one", "other"] "double" (defScope s_double) f cdv A outer s H E) rfl rfl rfl rfl
    have hp := passes_of (X := cxOf (L2.CX P w) P w K mg base ["one", "other"] "double" (defScope s_double) f cdv A outer s H E) rfl
    exact s_cons (s_expr (d_call (d_check_two T) hr (by decide) gd tk (a_cons (dv 0) (a_cons (dv 1) (a_nil)))))
      (s_one (s_ret (d_call (d_double_of T) hr (by decide) gd tk (a_cons (dv 0) (a_cons (dv 1) (a_nil)))))))
/-! are_outward -/
noncomputable def b_are_outward : Es := (seqS (asgS 2 (e2 addD (e2 ixD (varE 0) (cE (.int 0))) (e2 ixD (varE 1) (cE (.int 0)))))
  (retS (orE (e2 gtD (varE 2) (cE (.int 0))) (andE (e2 eqD (varE 2) (cE (.int 0))) (e2 gtD (e2 addD (e2 ixD (varE 0) (cE (.int 1))) (e2 ixD (varE 1) (cE (.int 1)))) (cE (.int 0)))))))
noncomputable def F_are_outward : List D → Res D := runF 1 (b_are_outward)
theorem sc_are_outward : FnScope ["one", "other", "curvature"] ["one", "other"] (defScope s_are_outward) := ⟨rfl, rfl, rfl, by decide +kernel, rfl, by decide +kernel, by decide +kernel⟩
theorem d_are_outward (T : Txt K mg C_InvalidCircle) : Def P w K mg base "are_outward" 1 2 (F_are_outward) :=
  Def.of (k := 0) T.a_are_outward sc_are_outward rfl (fun f cdv A outer s H E hr gd => by
    have nd := sc_are_outward.nd
    have tk := takes_of (X := cxOf (L2.CX P w) P w K mg base ["one", "other", "curvature"] "are_outward" (defScope s_are_outward) f cdv A outer s H E) rfl rfl rfl rfl
    have hp := passes_of (X := cxOf (L2.CX P w) P w K mg base ["one", "other", "curvature"] "are_outward" (defScope s_are_outward) f cdv A outer s H E) rfl
    exact s_cons (s_asg (i := 2) nd rfl (by first | exact Or.inl rfl | exact Or.inr rfl) (d_add (d_ix (dv 0) (d_int)) (d_ix (dv 1) (d_int))))
      (s_one (s_ret (d_or (d_gt (dv 2) (d_int)) (d_one (d_and (d_eq hr.units (dv 2) (d_int)) (d_one (d_gt (d_add (d_ix (dv 0) (d_int)) (d_ix (dv 1) (d_int))) (d_int)))))))))
/-! are_touching -/
noncomputable def b_are_touching : Es := (retS (andE (e2 eqD (callE 2 F_double_of (consA (varE 0) (consA (varE 1) nilA))) (e1 negD (cE (.int 2)))) (callE 2 F_are_outward (consA (varE 0) (consA (varE 1) nilA)))))
noncomputable def F_are_touching : List D → Res D := runF 0 (b_are_touching)
theorem sc_are_touching : FnScope ["one", "other"] ["one", "other"] (defScope s_are_touching) := ⟨rfl, rfl, rfl, by decide +kernel, rfl, by decide +kernel, by decide +kernel⟩
theorem d_are_touching (T : Txt K mg C_InvalidCircle) : Def P w K mg base "are_touching" 2 2 (F_are_touching) :=
  Def.of (k := 1) T.a_are_touching sc_are_touching rfl (fun f cdv A outer s H E hr gd => by
    have nd := sc_are_touching.nd
    have tk := takes_of (X := cxOf (L2.CX P w) P w K mg base ["one", "other"] "are_touching" (defScope s_are_touching) f cdv A outer s H E) rfl rfl rfl rfl
    have hp := passes_of (X := cxOf (L2.CX P w) P w K mg base ["one", "other"] "are_touching" (defScope s_are_touching) f cdv A outer s H E) rfl
    exact s_one (s_ret (d_and (d_eq hr.units (d_call (d_double_of T) hr (by decide) gd tk (a_cons (dv 0) (a_cons (dv 1) (a_nil)))) (d_neg (d_int))) (d_one (d_call (d_are_outward T) hr (by decide) gd tk (a_cons (dv 0) (a_cons (dv 1) (a_nil))))))))
/-! touch -/
noncomputable def b_touch (C_InvalidCircle : Addr) : Es := (seqS (dropS (callE 2 (F_check_two C_InvalidCircle) (consA (varE 0) (consA (varE 1) nilA))))
  (retS (callE 2 F_are_touching (consA (varE 0) (consA (varE 1) nilA)))))
noncomputable def F_touch (C_InvalidCircle : Addr) : List D → Res D := runF 0 (b_touch C_InvalidCircle)
theorem sc_touch : FnScope ["one", "other"] ["one", "other"] (defScope s_touch) := ⟨rfl, rfl, rfl, by decide +kernel, rfl, by decide +kernel, by decide +kernel⟩
theorem d_touch (T : Txt K mg C_InvalidCircle) : Def P w K mg base "touch" 4 2 (F_touch C_InvalidCircle) :=
  Def.of (k := 3) T.a_touch sc_touch rfl (fun f cdv A outer s H E hr gd => by
    have nd := sc_touch.nd
    have tk := takes_of (X := cxOf (L2.CX P w) P w K mg base ["one", "other"] "touch" (defScope s_touch) f cdv A outer s H E) rfl rfl rfl rfl
    have hp := passes_of (X := cxOf (L2.CX P w) P w K mg base ["one", "other"] "touch" (defScope s_touch) f cdv A outer s H E) rfl
    exact s_cons (s_expr (d_call (d_check_two T) hr (by decide) gd tk (a_cons (dv 0) (a_cons (dv 1) (a_nil)))))
      (s_one (s_ret (d_call (d_are_touching T) hr (by decide) gd tk (a_cons (dv 0) (a_cons (dv 1) (a_nil)))))))
/-! opposite -/
noncomputable def b_opposite (C_InvalidCircle : Addr) : Es := (seqS (dropS (callE 1 (F_check_circle C_InvalidCircle) (consA (varE 0) nilA)))
  (retS (e1 tupleD (lcE (seqI (varE 0)) [1] (gN 1) yesB (e1 negD (varE 1))))))
noncomputable def F_opposite (C_InvalidCircle : Addr) : List D → Res D := runF 1 (b_opposite C_InvalidCircle)
theorem sc_opposite : FnScope ["circle", "part"] ["circle"] (defScope s_opposite) := ⟨rfl, rfl, rfl, by decide +kernel, rfl, by decide +kernel, by decide +kernel⟩
theorem d_opposite (T : Txt K mg C_InvalidCircle) : Def P w K mg base "opposite" 3 1 (F_opposite C_InvalidCircle) :=
  Def.of (k := 2) T.a_opposite sc_opposite rfl (fun f cdv A outer s H E hr gd => by
    have nd := sc_opposite.nd
    have tk := takes_of (X := cxOf (L2.CX P w) P w K mg base ["circle", "part"] "opposite" (defScope s_opposite) f cdv A outer s H E) rfl rfl rfl rfl
    have hp := passes_of (X := cxOf (L2.CX P w) P w K mg base ["circle", "part"] "opposite" (defScope s_opposite) f cdv A outer s H E) rfl
    exact s_cons (s_expr (d_call (d_check_circle T) hr (by decide) gd tk (a_cons (dv 0) (a_nil))))
      (s_one (s_ret (d_tuplec T.z_tuple (d_lc (own := [("part", 1)]) rfl nd (i_seq (dv 0)) (blkOk_by (show blkC ["circle", "part"] (defScope s_opposite) _ _ = true by decide +kernel)) gN_ok gin_name (fun _ _ _ _ _ => pg_name (i := 1) nd rfl (by first | exact Or.inl rfl | exact Or.inr rfl)) (fun _ _ _ _ _ => pts_none _) (fun _ _ _ _ _ => d_neg (dv 1)))))))
/-! relation -/
noncomputable def b_relation (C_InvalidCircle : Addr) : Es := (seqS (dropS (callE 2 (F_check_two C_InvalidCircle) (consA (varE 0) (consA (varE 1) nilA))))
  (seqS (ifS (tst0 (e2 eqD (e1 tupleD (varE 0)) (e1 tupleD (varE 1))))
  (retS (cE (.str "same")))
  skipS)
  (seqS (ifS (tst0 (e2 eqD (callE 1 (F_opposite C_InvalidCircle) (consA (varE 0) nilA)) (e1 tupleD (varE 1))))
  (retS (cE (.str "opposite")))
  skipS)
  (seqS (asgS 2 (callE 2 F_double_of (consA (varE 0) (consA (varE 1) nilA))))
  (seqS (ifS (tst0 (e2 eqD (varE 2) (e1 negD (cE (.int 2)))))
  (retS (ifE (tstE (callE 2 F_are_outward (consA (varE 0) (consA (varE 1) nilA)))) (cE (.str "touch")) (cE (.str "touch around"))))
  skipS)
  (seqS (ifS (tst0 (e2 ltD (varE 2) (e1 negD (cE (.int 2)))))
  (retS (ifE (tstE (callE 2 F_are_outward (consA (varE 0) (consA (varE 1) nilA)))) (cE (.str "apart")) (cE (.str "around"))))
  skipS)
  (seqS (ifS (tst0 (e2 eqD (varE 2) (cE (.int 2))))
  (retS (cE (.str "touch inside")))
  skipS)
  (retS (ifE (tst0 (e2 gtD (varE 2) (cE (.int 2)))) (cE (.str "nested")) (cE (.str "cross")))))))))))
noncomputable def F_relation (C_InvalidCircle : Addr) : List D → Res D := runF 1 (b_relation C_InvalidCircle)
theorem sc_relation : FnScope ["one", "other", "number"] ["one", "other"] (defScope s_relation) := ⟨rfl, rfl, rfl, by decide +kernel, rfl, by decide +kernel, by decide +kernel⟩
theorem d_relation (T : Txt K mg C_InvalidCircle) : Def P w K mg base "relation" 4 2 (F_relation C_InvalidCircle) :=
  Def.of (k := 3) T.a_relation sc_relation rfl (fun f cdv A outer s H E hr gd => by
    have nd := sc_relation.nd
    have tk := takes_of (X := cxOf (L2.CX P w) P w K mg base ["one", "other", "number"] "relation" (defScope s_relation) f cdv A outer s H E) rfl rfl rfl rfl
    have hp := passes_of (X := cxOf (L2.CX P w) P w K mg base ["one", "other", "number"] "relation" (defScope s_relation) f cdv A outer s H E) rfl
    exact s_cons (s_expr (d_call (d_check_two T) hr (by decide) gd tk (a_cons (dv 0) (a_cons (dv 1) (a_nil)))))
      (s_cons (s_if (t_eq hr.units (d_tuplec T.z_tuple (dv 0)) (d_tuplec T.z_tuple (dv 1)))
      (s_one (s_ret (d_str)))
      (s_nil))
      (s_cons (s_if (t_eq hr.units (d_call (d_opposite T) hr (by decide) gd tk (a_cons (dv 0) (a_nil))) (d_tuplec T.z_tuple (dv 1)))
      (s_one (s_ret (d_str)))
      (s_nil))
      (s_cons (s_asg (i := 2) nd rfl (by first | exact Or.inl rfl | exact Or.inr rfl) (d_call (d_double_of T) hr (by decide) gd tk (a_cons (dv 0) (a_cons (dv 1) (a_nil)))))
      (s_cons (s_if (t_eq hr.units (dv 2) (d_neg (d_int)))
      (s_one (s_ret (d_if (t_val (d_call (d_are_outward T) hr (by decide) gd tk (a_cons (dv 0) (a_cons (dv 1) (a_nil))))) (d_str) (d_str))))
      (s_nil))
      (s_cons (s_if (t_lt (dv 2) (d_neg (d_int)))
      (s_one (s_ret (d_if (t_val (d_call (d_are_outward T) hr (by decide) gd tk (a_cons (dv 0) (a_cons (dv 1) (a_nil))))) (d_str) (d_str))))
      (s_nil))
      (s_cons (s_if (t_eq hr.units (dv 2) (d_int))
      (s_one (s_ret (d_str)))
      (s_nil))
      (s_one (s_ret (d_if (t_gt (dv 2) (d_int)) (d_str) (d_str)))))))))))
/-! _law_row -/
noncomputable def b__law_row : Es := (seqS (ownS 2 (lstE nilA))
  (seqS (asgS 3 (e1 absD (varE 0)))
  (seqS (asgS 4 (e2 modD (e1 intD (e2 addD (e2 mulD (varE 3) (cE (.int 48271))) (cE (.int 69621)))) (cE (.int 2147483647))))
  (seqS (forS (rng1I (varE 1)) (gN 5)
  (seqS (asgS 4 (e2 modD (e1 intD (e2 addD (e2 mulD (varE 4) (cE (.int 16807))) (e2 mulD (cE (.int 271)) (e2 addD (varE 5) (cE (.int 3)))))) (cE (.int 2147483629))))
  (ifS (tst0 (e2 geD (e1 absD (varE 0)) (e2 powD (cE (.int 10)) (cE (.int 18)))))
  (seqS (appS 2 (e2 modD (e1 intD (varE 3)) (cE (.int 1009))))
  (asgS 3 (e2 fdivD (varE 3) (cE (.int 1009)))))
  (appS 2 (e2 modD (e1 intD (e2 fdivD (varE 4) (cE (.int 7)))) (cE (.int 1009)))))))
  (retOwn 2)))))
noncomputable def F__law_row : List D → Res D := runF 4 (b__law_row)
theorem sc__law_row : FnScope ["cell", "many", "row", "rest", "mixed", "k"] ["cell", "many"] (defScope s__law_row) := ⟨rfl, rfl, rfl, by decide +kernel, rfl, by decide +kernel, by decide +kernel⟩
theorem d__law_row (T : Txt K mg C_InvalidCircle) : Def P w K mg base "_law_row" 1 2 (F__law_row) :=
  Def.of (k := 0) T.a__law_row sc__law_row rfl (fun f cdv A outer s H E hr gd => by
    have nd := sc__law_row.nd
    have tk := takes_of (X := cxOf (L2.CX P w) P w K mg base ["cell", "many", "row", "rest", "mixed", "k"] "_law_row" (defScope s__law_row) f cdv A outer s H E) rfl rfl rfl rfl
    have hp := passes_of (X := cxOf (L2.CX P w) P w K mg base ["cell", "many", "row", "rest", "mixed", "k"] "_law_row" (defScope s__law_row) f cdv A outer s H E) rfl
    exact s_cons (s_own (i := 2) nd rfl (by first | exact Or.inl rfl | exact Or.inr rfl) (d_lst (a_nil)))
      (s_cons (s_asg (i := 3) nd rfl (by first | exact Or.inl rfl | exact Or.inr rfl) (d_abs T.z_abs (dv 0)))
      (s_cons (s_asg (i := 4) nd rfl (by first | exact Or.inl rfl | exact Or.inr rfl) (d_mod (d_intc T.z_int (d_add (d_mul (dv 3) (d_int)) (d_int))) (d_int)))
      (s_cons (s_for hp rfl (i_range1 T.z_range (dv 1)) (pg_name (i := 5) nd rfl (by first | exact Or.inl rfl | exact Or.inr rfl)) gN_ok
      (s_cons (s_asg (i := 4) nd rfl (by first | exact Or.inl rfl | exact Or.inr rfl) (d_mod (d_intc T.z_int (d_add (d_mul (dv 4) (d_int)) (d_mul (d_int) (d_add (dv 5) (d_int))))) (d_int)))
      (s_one (s_if (t_ge (d_abs T.z_abs (dv 0)) (d_pow (d_int) (d_int)))
      (s_cons (s_app (i := 2) (pe_bm PySem.F.plainAttrs_list PySem.F.slot_list_append PySem.F.type_list_append mt_append (pv 2) (pa_cons (d_mod (d_intc T.z_int (dv 3)) (d_int)) pa_nil)))
      (s_one (s_asg (i := 3) nd rfl (by first | exact Or.inl rfl | exact Or.inr rfl) (d_fdiv (dv 3) (d_int)))))
      (s_one (s_app (i := 2) (pe_bm PySem.F.plainAttrs_list PySem.F.slot_list_append PySem.F.type_list_append mt_append (pv 2) (pa_cons (d_mod (d_intc T.z_int (d_fdiv (dv 4) (d_int))) (d_int)) pa_nil))))))))
      (s_one (s_retOwn (i := 2) rfl (by first | exact Or.inl rfl | exact Or.inr (Or.inl rfl))))))))
/-! _law_numbers -/
def n__law_numbers_0 : Rho → Nat := fun _ => 5000
noncomputable def b__law_numbers : Es := (seqS (asgS 2 (sliceE (varE 0) noO (someO (cE (.int 63)))))
  (seqS (asgS 3 (e2 addD (cE (.int 1)) (e2 fdivD (varE 1) (e2 maxD (cE (.int 1)) (e1 lenD (varE 2))))))
  (seqS (ownS 4 (lstE nilA))
  (seqS (forS (seqI (varE 2)) (gN 5)
  (forS (seqI (callE 2 F__law_row (consA (varE 5) (consA (varE 3) nilA)))) (gN 6)
  (appS 4 (varE 6))))
  (seqS (whS n__law_numbers_0 (tst0 (e2 ltD (e1 lenD (varE 4)) (varE 1)))
  (appS 4 (cE (.int 0))))
  (retS (sliceE (varE 4) noO (someO (varE 1)))))))))
noncomputable def F__law_numbers : List D → Res D := runF 5 (b__law_numbers)
theorem sc__law_numbers : FnScope ["script", "many", "cells", "each", "numbers", "cell", "number"] ["script", "many"] (defScope s__law_numbers) := ⟨rfl, rfl, rfl, by decide +kernel, rfl, by decide +kernel, by decide +kernel⟩
theorem d__law_numbers (T : Txt K mg C_InvalidCircle) : Def P w K mg base "_law_numbers" 2 2 (F__law_numbers) :=
  Def.of (k := 1) T.a__law_numbers sc__law_numbers rfl (fun f cdv A outer s H E hr gd => by
    have nd := sc__law_numbers.nd
    have tk := takes_of (X := cxOf (L2.CX P w) P w K mg base ["script", "many", "cells", "each", "numbers", "cell", "number"] "_law_numbers" (defScope s__law_numbers) f cdv A outer s H E) rfl rfl rfl rfl
    have hp := passes_of (X := cxOf (L2.CX P w) P w K mg base ["script", "many", "cells", "each", "numbers", "cell", "number"] "_law_numbers" (defScope s__law_numbers) f cdv A outer s H E) rfl
    exact s_cons (s_asg (i := 2) nd rfl (by first | exact Or.inl rfl | exact Or.inr rfl) (d_slice (dv 0) (o_none) (o_some (d_int))))
      (s_cons (s_asg (i := 3) nd rfl (by first | exact Or.inl rfl | exact Or.inr rfl) (d_add (d_int) (d_fdiv (dv 1) (d_max2 rfl T.z_max (d_int) (d_len T.z_len (dv 2))))))
      (s_cons (s_own (i := 4) nd rfl (by first | exact Or.inl rfl | exact Or.inr rfl) (d_lst (a_nil)))
      (s_cons (s_for hp rfl (i_seq (dv 2)) (pg_name (i := 5) nd rfl (by first | exact Or.inl rfl | exact Or.inr rfl)) gN_ok
      (s_one (s_for hp rfl (i_seq (d_call (d__law_row T) hr (by decide) gd tk (a_cons (dv 5) (a_cons (dv 3) (a_nil))))) (pg_name (i := 6) nd rfl (by first | exact Or.inl rfl | exact Or.inr rfl)) gN_ok
      (s_one (s_app (i := 4) (pe_bm PySem.F.plainAttrs_list PySem.F.slot_list_append PySem.F.type_list_append mt_append (pv 4) (pa_cons (dv 6) pa_nil)))))))
      (s_cons (s_while (n := n__law_numbers_0) hp (t_lt (d_len T.z_len (dv 4)) (dv 1))
      (s_one (s_app (i := 4) (pe_bm PySem.F.plainAttrs_list PySem.F.slot_list_append PySem.F.type_list_append mt_append (pv 4) (pa_cons (d_int) pa_nil)))))
      (s_one (s_ret (d_slice (dv 4) (o_none) (o_some (dv 1))))))))))
/-! _law_other -/
noncomputable def b__law_other : Es := (retS (e1 tupleD (lcE (rng1I (cE (.int 4))) [2] (gN 2) yesB (e2 subD (e2 mulD (cE (.int 2)) (e1 sumD (lcE (seqI (varE 0)) [3] (gN 3) yesB (e2 ixD (varE 3) (varE 2))))) (e2 mulD (cE (.int 3)) (e2 ixD (e2 ixD (varE 0) (varE 1)) (varE 2)))))))
noncomputable def F__law_other : List D → Res D := runF 2 (b__law_other)
theorem sc__law_other : FnScope ["circles", "k", "part", "circle"] ["circles", "k"] (defScope s__law_other) := ⟨rfl, rfl, rfl, by decide +kernel, rfl, by decide +kernel, by decide +kernel⟩
theorem d__law_other (T : Txt K mg C_InvalidCircle) : Def P w K mg base "_law_other" 1 2 (F__law_other) :=
  Def.of (k := 0) T.a__law_other sc__law_other rfl (fun f cdv A outer s H E hr gd => by
    have nd := sc__law_other.nd
    have tk := takes_of (X := cxOf (L2.CX P w) P w K mg base ["circles", "k", "part", "circle"] "_law_other" (defScope s__law_other) f cdv A outer s H E) rfl rfl rfl rfl
    have hp := passes_of (X := cxOf (L2.CX P w) P w K mg base ["circles", "k", "part", "circle"] "_law_other" (defScope s__law_other) f cdv A outer s H E) rfl
    exact s_one (s_ret (d_tuplec T.z_tuple (d_lc (own := [("part", 2)]) rfl nd (i_range1 T.z_range (d_int)) (blkOk_by (show blkC ["circles", "k", "part", "circle"] (defScope s__law_other) _ _ = true by decide +kernel)) gN_ok gin_name (fun _ _ _ _ _ => pg_name (i := 2) nd rfl (by first | exact Or.inl rfl | exact Or.inr rfl)) (fun _ _ _ _ _ => pts_none _) (fun _ _ _ _ _ => d_sub (d_mul (d_int) (d_sum rfl T.z_sum (d_lc (own := [("circle", 3)]) rfl nd (i_seq (dv 0)) (blkOk_by (by with_unfolding_all rfl)) gN_ok gin_name (fun _ _ _ _ _ => pg_name (i := 3) nd rfl (by first | exact Or.inl rfl | exact Or.inr rfl)) (fun _ _ _ _ _ => pts_none _) (fun _ _ _ _ _ => d_ix (dv 3) (dv 2))))) (d_mul (d_int) (d_ix (d_ix (dv 0) (dv 1)) (dv 2))))))))
/-! _law_fallen -/
noncomputable def b__law_fallen : Es := (seqS (ownS 2 (e1 listD (varE 0)))
  (seqS (forS (seqI (varE 1)) (gN 3)
  (setS 2 (varE 3) (borE 2 (callE 2 F__law_other (consA (varE 2) (consA (varE 3) nilA))))))
  (retOwn 2)))
noncomputable def F__law_fallen : List D → Res D := runF 2 (b__law_fallen)
theorem sc__law_fallen : FnScope ["circles", "word", "found", "k"] ["circles", "word"] (defScope s__law_fallen) := ⟨rfl, rfl, rfl, by decide +kernel, rfl, by decide +kernel, by decide +kernel⟩
theorem d__law_fallen (T : Txt K mg C_InvalidCircle) : Def P w K mg base "_law_fallen" 2 2 (F__law_fallen) :=
  Def.of (k := 1) T.a__law_fallen sc__law_fallen rfl (fun f cdv A outer s H E hr gd => by
    have nd := sc__law_fallen.nd
    have tk := takes_of (X := cxOf (L2.CX P w) P w K mg base ["circles", "word", "found", "k"] "_law_fallen" (defScope s__law_fallen) f cdv A outer s H E) rfl rfl rfl rfl
    have hp := passes_of (X := cxOf (L2.CX P w) P w K mg base ["circles", "word", "found", "k"] "_law_fallen" (defScope s__law_fallen) f cdv A outer s H E) rfl
    exact s_cons (s_own (i := 2) nd rfl (by first | exact Or.inl rfl | exact Or.inr rfl) (d_listc T.z_list (dv 0)))
      (s_cons (s_for hp rfl (i_seq (dv 1)) (pg_name (i := 3) nd rfl (by first | exact Or.inl rfl | exact Or.inr rfl)) gN_ok
      (s_one (s_set (i := 2) (ps_asg (d_bor (i := 2) (d_call (d__law_other T) hr (by decide) gd tk (a_cons (dv 2) (a_cons (dv 3) (a_nil))))) (pg_sub (pv 2) (dv 3) set_list)))))
      (s_one (s_retOwn (i := 2) rfl (by first | exact Or.inl rfl | exact Or.inr (Or.inl rfl))))))
/-! _law_given -/
noncomputable def b__law_given : Es := (seqS (asgS 1 (e2 modD (e1 intD (varE 0)) (cE (.int 7))))
  (seqS (ifS (tst0 (e2 eqD (varE 1) (cE (.int 4))))
  (retS (lstE (consA (tupE (consA (e1 negD (cE (.int 3))) (consA (cE (.int 0)) (consA (cE (.int 1)) (consA (cE (.int 0)) nilA))))) (consA (tupE (consA (cE (.int 5)) (consA (cE (.int 0)) (consA (e1 negD (cE (.int 1))) (consA (cE (.int 0)) nilA))))) (consA (tupE (consA (cE (.int 8)) (consA (cE (.int 2)) (consA (e1 negD (cE (.int 4))) (consA (cE (.int 1)) nilA))))) (consA (tupE (consA (cE (.int 8)) (consA (cE (.int 2)) (consA (e1 negD (cE (.int 4))) (consA (e1 negD (cE (.int 1))) nilA))))) nilA))))))
  skipS)
  (seqS (ifS (tst0 (e2 eqD (varE 1) (cE (.int 5))))
  (retS (lstE (consA (tupE (consA (cE (.int 0)) (consA (cE (.int 2)) (consA (cE (.int 0)) (consA (cE (.int 1)) nilA))))) (consA (tupE (consA (cE (.int 0)) (consA (cE (.int 2)) (consA (cE (.int 0)) (consA (e1 negD (cE (.int 1))) nilA))))) (consA (tupE (consA (cE (.int 1)) (consA (e1 negD (cE (.int 1))) (consA (cE (.int 0)) (consA (cE (.int 0)) nilA))))) (consA (tupE (consA (cE (.int 1)) (consA (cE (.int 3)) (consA (cE (.int 2)) (consA (cE (.int 0)) nilA))))) nilA))))))
  skipS)
  (seqS (ifS (tst0 (e2 eqD (varE 1) (cE (.int 6))))
  (retS (lstE (consA (tupE (consA (cE (.int 0)) (consA (cE (.int 1)) (consA (cE (.int 0)) (consA (cE (.int 1)) nilA))))) (consA (tupE (consA (cE (.int 0)) (consA (cE (.int 1)) (consA (cE (.int 0)) (consA (e1 negD (cE (.int 1))) nilA))))) (consA (tupE (consA (cE (.int 2)) (consA (cE (.int 0)) (consA (cE (.int 1)) (consA (cE (.int 0)) nilA))))) (consA (tupE (consA (cE (.int 2)) (consA (cE (.int 4)) (consA (cE (.int 3)) (consA (cE (.int 0)) nilA))))) nilA))))))
  skipS)
  (seqS (asgS 2 (e2 ixD (lstE (consA (cE (.int 0)) (consA (cE (.int 1)) (consA (cE (.int 2)) (consA (e2 addD (cE (.int 1)) (e2 modD (e2 fdivD (e1 intD (varE 0)) (cE (.int 7))) (cE (.int 40)))) nilA))))) (varE 1)))
  (seqS (asgS 3 (e2 mulD (varE 2) (e2 addD (varE 2) (cE (.int 1)))))
  (retS (lstE (consA (tupE (consA (e2 subD (cE (.int 0)) (varE 2)) (consA (cE (.int 0)) (consA (cE (.int 1)) (consA (cE (.int 0)) nilA))))) (consA (tupE (consA (e2 addD (varE 2) (cE (.int 1))) (consA (cE (.int 0)) (consA (e1 negD (cE (.int 1))) (consA (cE (.int 0)) nilA))))) (consA (tupE (consA (varE 3) (consA (cE (.int 4)) (consA (e2 subD (e2 subD (cE (.int 0)) (e2 mulD (cE (.int 2)) (varE 2))) (cE (.int 1))) (consA (cE (.int 0)) nilA))))) (consA (tupE (consA (e2 addD (varE 3) (cE (.int 1))) (consA (cE (.int 4)) (consA (e2 subD (e2 subD (cE (.int 0)) (e2 mulD (cE (.int 2)) (varE 2))) (cE (.int 1))) (consA (cE (.int 2)) nilA))))) nilA))))))))))))
noncomputable def F__law_given : List D → Res D := runF 3 (b__law_given)
theorem sc__law_given : FnScope ["number", "k", "n", "area"] ["number"] (defScope s__law_given) := ⟨rfl, rfl, rfl, by decide +kernel, rfl, by decide +kernel, by decide +kernel⟩
theorem d__law_given (T : Txt K mg C_InvalidCircle) : Def P w K mg base "_law_given" 1 1 (F__law_given) :=
  Def.of (k := 0) T.a__law_given sc__law_given rfl (fun f cdv A outer s H E hr gd => by
    have nd := sc__law_given.nd
    have tk := takes_of (X := cxOf (L2.CX P w) P w K mg base ["number", "k", "n", "area"] "_law_given" (defScope s__law_given) f cdv A outer s H E) rfl rfl rfl rfl
    have hp := passes_of (X := cxOf (L2.CX P w) P w K mg base ["number", "k", "n", "area"] "_law_given" (defScope s__law_given) f cdv A outer s H E) rfl
    exact s_cons (s_asg (i := 1) nd rfl (by first | exact Or.inl rfl | exact Or.inr rfl) (d_mod (d_intc T.z_int (dv 0)) (d_int)))
      (s_cons (s_if (t_eq hr.units (dv 1) (d_int))
      (s_one (s_ret (d_lst (a_cons (d_tup (a_cons (d_neg (d_int)) (a_cons (d_int) (a_cons (d_int) (a_cons (d_int) (a_nil)))))) (a_cons (d_tup (a_cons (d_int) (a_cons (d_int) (a_cons (d_neg (d_int)) (a_cons (d_int) (a_nil)))))) (a_cons (d_tup (a_cons (d_int) (a_cons (d_int) (a_cons (d_neg (d_int)) (a_cons (d_int) (a_nil)))))) (a_cons (d_tup (a_cons (d_int) (a_cons (d_int) (a_cons (d_neg (d_int)) (a_cons (d_neg (d_int)) (a_nil)))))) (a_nil))))))))
      (s_nil))
      (s_cons (s_if (t_eq hr.units (dv 1) (d_int))
      (s_one (s_ret (d_lst (a_cons (d_tup (a_cons (d_int) (a_cons (d_int) (a_cons (d_int) (a_cons (d_int) (a_nil)))))) (a_cons (d_tup (a_cons (d_int) (a_cons (d_int) (a_cons (d_int) (a_cons (d_neg (d_int)) (a_nil)))))) (a_cons (d_tup (a_cons (d_int) (a_cons (d_neg (d_int)) (a_cons (d_int) (a_cons (d_int) (a_nil)))))) (a_cons (d_tup (a_cons (d_int) (a_cons (d_int) (a_cons (d_int) (a_cons (d_int) (a_nil)))))) (a_nil))))))))
      (s_nil))
      (s_cons (s_if (t_eq hr.units (dv 1) (d_int))
      (s_one (s_ret (d_lst (a_cons (d_tup (a_cons (d_int) (a_cons (d_int) (a_cons (d_int) (a_cons (d_int) (a_nil)))))) (a_cons (d_tup (a_cons (d_int) (a_cons (d_int) (a_cons (d_int) (a_cons (d_neg (d_int)) (a_nil)))))) (a_cons (d_tup (a_cons (d_int) (a_cons (d_int) (a_cons (d_int) (a_cons (d_int) (a_nil)))))) (a_cons (d_tup (a_cons (d_int) (a_cons (d_int) (a_cons (d_int) (a_cons (d_int) (a_nil)))))) (a_nil))))))))
      (s_nil))
      (s_cons (s_asg (i := 2) nd rfl (by first | exact Or.inl rfl | exact Or.inr rfl) (d_ix (d_lst (a_cons (d_int) (a_cons (d_int) (a_cons (d_int) (a_cons (d_add (d_int) (d_mod (d_fdiv (d_intc T.z_int (dv 0)) (d_int)) (d_int))) (a_nil)))))) (dv 1)))
      (s_cons (s_asg (i := 3) nd rfl (by first | exact Or.inl rfl | exact Or.inr rfl) (d_mul (dv 2) (d_add (dv 2) (d_int))))
      (s_one (s_ret (d_lst (a_cons (d_tup (a_cons (d_sub (d_int) (dv 2)) (a_cons (d_int) (a_cons (d_int) (a_cons (d_int) (a_nil)))))) (a_cons (d_tup (a_cons (d_add (dv 2) (d_int)) (a_cons (d_int) (a_cons (d_neg (d_int)) (a_cons (d_int) (a_nil)))))) (a_cons (d_tup (a_cons (dv 3) (a_cons (d_int) (a_cons (d_sub (d_sub (d_int) (d_mul (d_int) (dv 2))) (d_int)) (a_cons (d_int) (a_nil)))))) (a_cons (d_tup (a_cons (d_add (dv 3) (d_int)) (a_cons (d_int) (a_cons (d_sub (d_sub (d_int) (d_mul (d_int) (dv 2))) (d_int)) (a_cons (d_int) (a_nil)))))) (a_nil))))))))))))))
/-! _law_moved -/
noncomputable def b__law_moved : Es := (seqS (unpAS [3, 4, 5, 6] (varE 0))
  (retS (tupE (consA (varE 3) (consA (e2 addD (e2 addD (varE 4) (e2 mulD (cE (.int 2)) (e2 addD (e2 mulD (varE 5) (varE 1)) (e2 mulD (varE 6) (varE 2))))) (e2 mulD (varE 3) (e2 addD (e2 mulD (varE 1) (varE 1)) (e2 mulD (varE 2) (varE 2))))) (consA (e2 addD (varE 5) (e2 mulD (varE 3) (varE 1))) (consA (e2 addD (varE 6) (e2 mulD (varE 3) (varE 2))) nilA)))))))
noncomputable def F__law_moved : List D → Res D := runF 4 (b__law_moved)
theorem sc__law_moved : FnScope ["circle", "s", "t", "b", "c", "x", "y"] ["circle", "s", "t"] (defScope s__law_moved) := ⟨rfl, rfl, rfl, by decide +kernel, rfl, by decide +kernel, by decide +kernel⟩
theorem d__law_moved (T : Txt K mg C_InvalidCircle) : Def P w K mg base "_law_moved" 1 3 (F__law_moved) :=
  Def.of (k := 0) T.a__law_moved sc__law_moved rfl (fun f cdv A outer s H E hr gd => by
    have nd := sc__law_moved.nd
    have tk := takes_of (X := cxOf (L2.CX P w) P w K mg base ["circle", "s", "t", "b", "c", "x", "y"] "_law_moved" (defScope s__law_moved) f cdv A outer s H E) rfl rfl rfl rfl
    have hp := passes_of (X := cxOf (L2.CX P w) P w K mg base ["circle", "s", "t", "b", "c", "x", "y"] "_law_moved" (defScope s__law_moved) f cdv A outer s H E) rfl
    exact s_cons (s_unpA (is := [3, 4, 5, 6]) (dv 0) rfl (pgs_cons (pg_name (i := 3) nd rfl (by first | exact Or.inl rfl | exact Or.inr rfl)) (pgs_cons (pg_name (i := 4) nd rfl (by first | exact Or.inl rfl | exact Or.inr rfl)) (pgs_cons (pg_name (i := 5) nd rfl (by first | exact Or.inl rfl | exact Or.inr rfl)) (pgs_cons (pg_name (i := 6) nd rfl (by first | exact Or.inl rfl | exact Or.inr rfl)) (pgs_nil))))))
      (s_one (s_ret (d_tup (a_cons (dv 3) (a_cons (d_add (d_add (dv 4) (d_mul (d_int) (d_add (d_mul (dv 5) (dv 1)) (d_mul (dv 6) (dv 2))))) (d_mul (dv 3) (d_add (d_mul (dv 1) (dv 1)) (d_mul (dv 2) (dv 2))))) (a_cons (d_add (dv 5) (d_mul (dv 3) (dv 1))) (a_cons (d_add (dv 6) (d_mul (dv 3) (dv 2))) (a_nil)))))))))
/-! _law_laid -/
noncomputable def b__law_laid : Es := (seqS (unpAS [7, 8, 9, 10] (varE 2))
  (seqS (forS (rng1I (e2 modD (e1 intD (e2 ixD (varE 0) (varE 1))) (cE (.int 4)))) (gN 3)
  (par2S 9 10 (consA (e2 subD (cE (.int 0)) (varE 10)) (consA (varE 9) nilA))))
  (seqS (ifS (tst0 (e2 eqD (e2 modD (e2 fdivD (e1 intD (e2 ixD (varE 0) (varE 1))) (cE (.int 4))) (cE (.int 2))) (cE (.int 1))))
  (asgS 9 (e2 subD (cE (.int 0)) (varE 9)))
  skipS)
  (seqS (asgS 4 (e2 ixD (lstE (consA (cE (.int 0)) (consA (cE (.int 9)) (consA (cE (.int 1009)) nilA)))) (e2 modD (e1 intD (e2 ixD (varE 0) (e2 addD (varE 1) (cE (.int 1))))) (cE (.int 3)))))
  (seqS (asgS 5 (e2 subD (e2 modD (e1 intD (e2 ixD (varE 0) (e2 addD (varE 1) (cE (.int 2))))) (e2 addD (e2 mulD (cE (.int 2)) (varE 4)) (cE (.int 1)))) (varE 4)))
  (seqS (asgS 6 (e2 subD (e2 modD (e1 intD (e2 ixD (varE 0) (e2 addD (varE 1) (cE (.int 3))))) (e2 addD (e2 mulD (cE (.int 2)) (varE 4)) (cE (.int 1)))) (varE 4)))
  (retS (callE 3 F__law_moved (consA (tupE (consA (varE 7) (consA (varE 8) (consA (varE 9) (consA (varE 10) nilA))))) (consA (varE 5) (consA (varE 6) nilA)))))))))))
noncomputable def F__law_laid : List D → Res D := runF 8 (b__law_laid)
theorem sc__law_laid : FnScope ["numbers", "at", "circle", "k", "most", "s", "t", "b", "c", "x", "y"] ["numbers", "at", "circle"] (defScope s__law_laid) := ⟨rfl, rfl, rfl, by decide +kernel, rfl, by decide +kernel, by decide +kernel⟩
theorem d__law_laid (T : Txt K mg C_InvalidCircle) : Def P w K mg base "_law_laid" 2 3 (F__law_laid) :=
  Def.of (k := 1) T.a__law_laid sc__law_laid rfl (fun f cdv A outer s H E hr gd => by
    have nd := sc__law_laid.nd
    have tk := takes_of (X := cxOf (L2.CX P w) P w K mg base ["numbers", "at", "circle", "k", "most", "s", "t", "b", "c", "x", "y"] "_law_laid" (defScope s__law_laid) f cdv A outer s H E) rfl rfl rfl rfl
    have hp := passes_of (X := cxOf (L2.CX P w) P w K mg base ["numbers", "at", "circle", "k", "most", "s", "t", "b", "c", "x", "y"] "_law_laid" (defScope s__law_laid) f cdv A outer s H E) rfl
    exact s_cons (s_unpA (is := [7, 8, 9, 10]) (dv 2) rfl (pgs_cons (pg_name (i := 7) nd rfl (by first | exact Or.inl rfl | exact Or.inr rfl)) (pgs_cons (pg_name (i := 8) nd rfl (by first | exact Or.inl rfl | exact Or.inr rfl)) (pgs_cons (pg_name (i := 9) nd rfl (by first | exact Or.inl rfl | exact Or.inr rfl)) (pgs_cons (pg_name (i := 10) nd rfl (by first | exact Or.inl rfl | exact Or.inr rfl)) (pgs_nil))))))
      (s_cons (s_for hp rfl (i_range1 T.z_range (d_mod (d_intc T.z_int (d_ix (dv 0) (dv 1))) (d_int))) (pg_name (i := 3) nd rfl (by first | exact Or.inl rfl | exact Or.inr rfl)) gN_ok
      (s_one (s_par2 (i := 9) (j := 10) rfl nd rfl rfl (by decide) rfl rfl (a_cons (d_sub (d_int) (dv 10)) (a_cons (dv 9) (a_nil))) (by rfl))))
      (s_cons (s_if (t_eq hr.units (d_mod (d_fdiv (d_intc T.z_int (d_ix (dv 0) (dv 1))) (d_int)) (d_int)) (d_int))
      (s_one (s_asg (i := 9) nd rfl (by first | exact Or.inl rfl | exact Or.inr rfl) (d_sub (d_int) (dv 9))))
      (s_nil))
      (s_cons (s_asg (i := 4) nd rfl (by first | exact Or.inl rfl | exact Or.inr rfl) (d_ix (d_lst (a_cons (d_int) (a_cons (d_int) (a_cons (d_int) (a_nil))))) (d_mod (d_intc T.z_int (d_ix (dv 0) (d_add (dv 1) (d_int)))) (d_int))))
      (s_cons (s_asg (i := 5) nd rfl (by first | exact Or.inl rfl | exact Or.inr rfl) (d_sub (d_mod (d_intc T.z_int (d_ix (dv 0) (d_add (dv 1) (d_int)))) (d_add (d_mul (d_int) (dv 4)) (d_int))) (dv 4)))
      (s_cons (s_asg (i := 6) nd rfl (by first | exact Or.inl rfl | exact Or.inr rfl) (d_sub (d_mod (d_intc T.z_int (d_ix (dv 0) (d_add (dv 1) (d_int)))) (d_add (d_mul (d_int) (dv 4)) (d_int))) (dv 4)))
      (s_one (s_ret (d_call (d__law_moved T) hr (by decide) gd tk (a_cons (d_tup (a_cons (dv 7) (a_cons (dv 8) (a_cons (dv 9) (a_cons (dv 10) (a_nil)))))) (a_cons (dv 5) (a_cons (dv 6) (a_nil)))))))))))))
/-! _law_four -/
noncomputable def b__law_four : Es := (seqS (asgS 2 (lcE (seqI (callE 1 F__law_given (consA (e2 ixD (varE 0) (varE 1)) nilA))) [5] (gN 5) yesB (callE 3 F__law_laid (consA (varE 0) (consA (e2 addD (varE 1) (cE (.int 1))) (consA (varE 5) nilA))))))
  (seqS (asgS 3 (lcE (rng1I (e2 modD (e1 intD (e2 ixD (varE 0) (e2 addD (varE 1) (cE (.int 5))))) (cE (.int 7)))) [6] (gN 6) yesB (e2 modD (e1 intD (e2 ixD (varE 0) (e2 addD (e2 addD (varE 1) (cE (.int 6))) (varE 6)))) (cE (.int 4)))))
  (seqS (asgS 2 (callE 2 F__law_fallen (consA (varE 2) (consA (varE 3) nilA))))
  (seqS (asgS 4 (e2 modD (e1 intD (e2 ixD (varE 0) (e2 addD (varE 1) (cE (.int 12))))) (cE (.int 4))))
  (seqS (asgS 2 (e2 addD (sliceE (varE 2) (someO (varE 4)) noO) (sliceE (varE 2) noO (someO (varE 4)))))
  (seqS (ifS (tst0 (e2 eqD (e2 modD (e1 intD (e2 ixD (varE 0) (e2 addD (varE 1) (cE (.int 13))))) (cE (.int 2))) (cE (.int 1))))
  (asgS 2 (e1 revD (varE 2)))
  skipS)
  (retS (varE 2))))))))
noncomputable def F__law_four : List D → Res D := runF 5 (b__law_four)
theorem sc__law_four : FnScope ["numbers", "at", "circles", "word", "turn", "circle", "k"] ["numbers", "at"] (defScope s__law_four) := ⟨rfl, rfl, rfl, by decide +kernel, rfl, by decide +kernel, by decide +kernel⟩
theorem d__law_four (T : Txt K mg C_InvalidCircle) : Def P w K mg base "_law_four" 3 2 (F__law_four) :=
  Def.of (k := 2) T.a__law_four sc__law_four rfl (fun f cdv A outer s H E hr gd => by
    have nd := sc__law_four.nd
    have tk := takes_of (X := cxOf (L2.CX P w) P w K mg base ["numbers", "at", "circles", "word", "turn", "circle", "k"] "_law_four" (defScope s__law_four) f cdv A outer s H E) rfl rfl rfl rfl
    have hp := passes_of (X := cxOf (L2.CX P w) P w K mg base ["numbers", "at", "circles", "word", "turn", "circle", "k"] "_law_four" (defScope s__law_four) f cdv A outer s H E) rfl
    exact s_cons (s_asgLc (own := [("circle", 5)]) (i := 2) rfl nd rfl rfl (sw_true rfl rfl rfl (by decide +kernel)) (i_seq (d_call (d__law_given T) hr (by decide) gd tk (a_cons (d_ix (dv 0) (dv 1)) (a_nil)))) (blkOk_by (show blkC ["numbers", "at", "circles", "word", "turn", "circle", "k"] (defScope s__law_four) _ _ = true by decide +kernel)) gN_ok gin_name (fun _ _ _ _ _ => pg_name (i := 5) nd rfl (by first | exact Or.inl rfl | exact Or.inr rfl)) (fun _ _ _ _ _ => pts_none _) (fun _ _ _ _ _ => d_call (d__law_laid T) hr (by decide) gd takes0 (a_cons (dv 0) (a_cons (d_add (dv 1) (d_int)) (a_cons (dv 5) (a_nil))))))
      (s_cons (s_asgLc (own := [("k", 6)]) (i := 3) rfl nd rfl rfl (sw_true rfl rfl rfl (by decide +kernel)) (i_range1 T.z_range (d_mod (d_intc T.z_int (d_ix (dv 0) (d_add (dv 1) (d_int)))) (d_int))) (blkOk_by (show blkC ["numbers", "at", "circles", "word", "turn", "circle", "k"] (defScope s__law_four) _ _ = true by decide +kernel)) gN_ok gin_name (fun _ _ _ _ _ => pg_name (i := 6) nd rfl (by first | exact Or.inl rfl | exact Or.inr rfl)) (fun _ _ _ _ _ => pts_none _) (fun _ _ _ _ _ => d_mod (d_intc T.z_int (d_ix (dv 0) (d_add (d_add (dv 1) (d_int)) (dv 6)))) (d_int)))
      (s_cons (s_asg (i := 2) nd rfl (by first | exact Or.inl rfl | exact Or.inr rfl) (d_call (d__law_fallen T) hr (by decide) gd tk (a_cons (dv 2) (a_cons (dv 3) (a_nil)))))
      (s_cons (s_asg (i := 4) nd rfl (by first | exact Or.inl rfl | exact Or.inr rfl) (d_mod (d_intc T.z_int (d_ix (dv 0) (d_add (dv 1) (d_int)))) (d_int)))
      (s_cons (s_asg (i := 2) nd rfl (by first | exact Or.inl rfl | exact Or.inr rfl) (d_add (d_slice (dv 2) (o_some (dv 4)) (o_none)) (d_slice (dv 2) (o_none) (o_some (dv 4)))))
      (s_cons (s_if (t_eq hr.units (d_mod (d_intc T.z_int (d_ix (dv 0) (d_add (dv 1) (d_int)))) (d_int)) (d_int))
      (s_one (s_asg (i := 2) nd rfl (by first | exact Or.inl rfl | exact Or.inr rfl) (d_rev (dv 2))))
      (s_nil))
      (s_one (s_ret (dv 2)))))))))
/-! _law_double -/
noncomputable def b__law_double : Es := (retS (e2 subD (e2 subD (e2 mulD (cE (.int 2)) (e2 addD (e2 mulD (e2 ixD (varE 0) (cE (.int 2))) (e2 ixD (varE 1) (cE (.int 2)))) (e2 mulD (e2 ixD (varE 0) (cE (.int 3))) (e2 ixD (varE 1) (cE (.int 3)))))) (e2 mulD (e2 ixD (varE 0) (cE (.int 0))) (e2 ixD (varE 1) (cE (.int 1))))) (e2 mulD (e2 ixD (varE 0) (cE (.int 1))) (e2 ixD (varE 1) (cE (.int 0))))))
noncomputable def F__law_double : List D → Res D := runF 0 (b__law_double)
theorem sc__law_double : FnScope ["one", "other"] ["one", "other"] (defScope s__law_double) := ⟨rfl, rfl, rfl, by decide +kernel, rfl, by decide +kernel, by decide +kernel⟩
theorem d__law_double (T : Txt K mg C_InvalidCircle) : Def P w K mg base "_law_double" 1 2 (F__law_double) :=
  Def.of (k := 0) T.a__law_double sc__law_double rfl (fun f cdv A outer s H E hr gd => by
    have nd := sc__law_double.nd
    have tk := takes_of (X := cxOf (L2.CX P w) P w K mg base ["one", "other"] "_law_double" (defScope s__law_double) f cdv A outer s H E) rfl rfl rfl rfl
    have hp := passes_of (X := cxOf (L2.CX P w) P w K mg base ["one", "other"] "_law_double" (defScope s__law_double) f cdv A outer s H E) rfl
    exact s_one (s_ret (d_sub (d_sub (d_mul (d_int) (d_add (d_mul (d_ix (dv 0) (d_int)) (d_ix (dv 1) (d_int))) (d_mul (d_ix (dv 0) (d_int)) (d_ix (dv 1) (d_int))))) (d_mul (d_ix (dv 0) (d_int)) (d_ix (dv 1) (d_int)))) (d_mul (d_ix (dv 0) (d_int)) (d_ix (dv 1) (d_int))))))
/-! _law_opposite -/
noncomputable def b__law_opposite : Es := (retS (e1 tupleD (lcE (seqI (varE 0)) [1] (gN 1) yesB (e2 subD (cE (.int 0)) (varE 1)))))
noncomputable def F__law_opposite : List D → Res D := runF 1 (b__law_opposite)
theorem sc__law_opposite : FnScope ["circle", "part"] ["circle"] (defScope s__law_opposite) := ⟨rfl, rfl, rfl, by decide +kernel, rfl, by decide +kernel, by decide +kernel⟩
theorem d__law_opposite (T : Txt K mg C_InvalidCircle) : Def P w K mg base "_law_opposite" 1 1 (F__law_opposite) :=
  Def.of (k := 0) T.a__law_opposite sc__law_opposite rfl (fun f cdv A outer s H E hr gd => by
    have nd := sc__law_opposite.nd
    have tk := takes_of (X := cxOf (L2.CX P w) P w K mg base ["circle", "part"] "_law_opposite" (defScope s__law_opposite) f cdv A outer s H E) rfl rfl rfl rfl
    have hp := passes_of (X := cxOf (L2.CX P w) P w K mg base ["circle", "part"] "_law_opposite" (defScope s__law_opposite) f cdv A outer s H E) rfl
    exact s_one (s_ret (d_tuplec T.z_tuple (d_lc (own := [("part", 1)]) rfl nd (i_seq (dv 0)) (blkOk_by (show blkC ["circle", "part"] (defScope s__law_opposite) _ _ = true by decide +kernel)) gN_ok gin_name (fun _ _ _ _ _ => pg_name (i := 1) nd rfl (by first | exact Or.inl rfl | exact Or.inr rfl)) (fun _ _ _ _ _ => pts_none _) (fun _ _ _ _ _ => d_sub (d_int) (dv 1))))))
/-! _law_relation -/
noncomputable def b__law_relation : Es := (seqS (asgS 2 (callE 2 F__law_double (consA (varE 0) (consA (varE 1) nilA))))
  (seqS (ifS (tst0 (e2 eqD (varE 0) (varE 1)))
  (retS (cE (.str "same")))
  skipS)
  (seqS (ifS (tst0 (e2 eqD (varE 0) (callE 1 F__law_opposite (consA (varE 1) nilA))))
  (retS (cE (.str "opposite")))
  skipS)
  (seqS (asgS 3 (e2 gtA (tupE (consA (e2 addD (e2 ixD (varE 0) (cE (.int 0))) (e2 ixD (varE 1) (cE (.int 0)))) (consA (e2 addD (e2 ixD (varE 0) (cE (.int 1))) (e2 ixD (varE 1) (cE (.int 1)))) nilA))) (tupE (consA (cE (.int 0)) (consA (cE (.int 0)) nilA)))))
  (seqS (ifS (tst0 (e2 eqD (varE 2) (e1 negD (cE (.int 2)))))
  (retS (e2 ixD (lstE (consA (cE (.str "touch around")) (consA (cE (.str "touch")) nilA))) (e1 intD (varE 3))))
  skipS)
  (seqS (ifS (tst0 (e2 ltD (varE 2) (e1 negD (cE (.int 2)))))
  (retS (e2 ixD (lstE (consA (cE (.str "around")) (consA (cE (.str "apart")) nilA))) (e1 intD (varE 3))))
  skipS)
  (seqS (ifS (tst0 (e2 gtA (varE 2) (cE (.int 2))))
  (retS (cE (.str "nested")))
  skipS)
  (retS (e2 ixD (lstE (consA (cE (.str "cross")) (consA (cE (.str "touch inside")) nilA))) (e1 intD (e2 eqD (varE 2) (cE (.int 2)))))))))))))
noncomputable def F__law_relation : List D → Res D := runF 2 (b__law_relation)
theorem sc__law_relation : FnScope ["one", "other", "twice", "outward"] ["one", "other"] (defScope s__law_relation) := ⟨rfl, rfl, rfl, by decide +kernel, rfl, by decide +kernel, by decide +kernel⟩
theorem d__law_relation (T : Txt K mg C_InvalidCircle) : Def P w K mg base "_law_relation" 2 2 (F__law_relation) :=
  Def.of (k := 1) T.a__law_relation sc__law_relation rfl (fun f cdv A outer s H E hr gd => by
    have nd := sc__law_relation.nd
    have tk := takes_of (X := cxOf (L2.CX P w) P w K mg base ["one", "other", "twice", "outward"] "_law_relation" (defScope s__law_relation) f cdv A outer s H E) rfl rfl rfl rfl
    have hp := passes_of (X := cxOf (L2.CX P w) P w K mg base ["one", "other", "twice", "outward"] "_law_relation" (defScope s__law_relation) f cdv A outer s H E) rfl
    exact s_cons (s_asg (i := 2) nd rfl (by first | exact Or.inl rfl | exact Or.inr rfl) (d_call (d__law_double T) hr (by decide) gd tk (a_cons (dv 0) (a_cons (dv 1) (a_nil)))))
      (s_cons (s_if (t_eq hr.units (dv 0) (dv 1))
      (s_one (s_ret (d_str)))
      (s_nil))
      (s_cons (s_if (t_eq hr.units (dv 0) (d_call (d__law_opposite T) hr (by decide) gd tk (a_cons (dv 1) (a_nil))))
      (s_one (s_ret (d_str)))
      (s_nil))
      (s_cons (s_asg (i := 3) nd rfl (by first | exact Or.inl rfl | exact Or.inr rfl) (d_gtA (uLt hr.units) (d_tup (a_cons (d_add (d_ix (dv 0) (d_int)) (d_ix (dv 1) (d_int))) (a_cons (d_add (d_ix (dv 0) (d_int)) (d_ix (dv 1) (d_int))) (a_nil)))) (d_tup (a_cons (d_int) (a_cons (d_int) (a_nil))))))
      (s_cons (s_if (t_eq hr.units (dv 2) (d_neg (d_int)))
      (s_one (s_ret (d_ix (d_lst (a_cons (d_str) (a_cons (d_str) (a_nil)))) (d_intc T.z_int (dv 3)))))
      (s_nil))
      (s_cons (s_if (t_lt (dv 2) (d_neg (d_int)))
      (s_one (s_ret (d_ix (d_lst (a_cons (d_str) (a_cons (d_str) (a_nil)))) (d_intc T.z_int (dv 3)))))
      (s_nil))
      (s_cons (s_if (t_gtA (uLt hr.units) (dv 2) (d_int))
      (s_one (s_ret (d_str)))
      (s_nil))
      (s_one (s_ret (d_ix (d_lst (a_cons (d_str) (a_cons (d_str) (a_nil)))) (d_intc T.z_int (d_eq hr.units (dv 2) (d_int)))))))))))))
/-! _law_refused -/
noncomputable def b__law_refused (C_InvalidCircle : Addr) : Es := (seqS (asgS 2 (cE (.int 0)))
  (seqS (forS (rng1I (cE (.int 3))) (gN 3)
  (tryAs 4 (ifS (tst0 (e2 eqD (varE 3) (cE (.int 0))))
  (dropS (callE 2 (F_double C_InvalidCircle) (consA (varE 0) (consA (varE 1) nilA))))
  (ifS (tst0 (e2 eqD (varE 3) (cE (.int 1))))
  (dropS (callE 2 (F_touch C_InvalidCircle) (consA (varE 0) (consA (varE 1) nilA))))
  (dropS (callE 2 (F_relation C_InvalidCircle) (consA (varE 0) (consA (varE 1) nilA)))))) (mtL [(C_InvalidCircle, true)])
  (fun a => (asgS 2 (e2 addD (varE 2) (e1 intD (isEx 4 a true)))))))
  (retS (e2 eqD (varE 2) (cE (.int 3))))))
noncomputable def F__law_refused (C_InvalidCircle : Addr) : List D → Res D := runF 3 (b__law_refused C_InvalidCircle)
theorem sc__law_refused : FnScope ["one", "other", "found", "k", "e"] ["one", "other"] (defScope s__law_refused) := ⟨rfl, rfl, rfl, by decide +kernel, rfl, by decide +kernel, by decide +kernel⟩
theorem d__law_refused (T : Txt K mg C_InvalidCircle) : Def P w K mg base "_law_refused" 5 2 (F__law_refused C_InvalidCircle) :=
  Def.of (k := 4) T.a__law_refused sc__law_refused rfl (fun f cdv A outer s H E hr gd => by
    have nd := sc__law_refused.nd
    have tk := takes_of (X := cxOf (L2.CX P w) P w K mg base ["one", "other", "found", "k", "e"] "_law_refused" (defScope s__law_refused) f cdv A outer s H E) rfl rfl rfl rfl
    have hp := passes_of (X := cxOf (L2.CX P w) P w K mg base ["one", "other", "found", "k", "e"] "_law_refused" (defScope s__law_refused) f cdv A outer s H E) rfl
    exact s_cons (s_asg (i := 2) nd rfl (by first | exact Or.inl rfl | exact Or.inr rfl) (d_int))
      (s_cons (s_for hp rfl (i_range1 T.z_range (d_int)) (pg_name (i := 3) nd rfl (by first | exact Or.inl rfl | exact Or.inr rfl)) gN_ok
      (s_one (s_tryAs (i := 4) (C0 := C_InvalidCircle) rfl rfl nd rfl rfl ⟨rfl, by decide, .inl T.g_InvalidCircle⟩ tk T.xm_InvalidCircle_InvalidCircle (fun _ _ _ tk hp => s_one (s_if (t_eq hr.units (dv 3) (d_int))
      (s_one (s_expr (d_call (d_double T) hr (by decide) gd tk (a_cons (dv 0) (a_cons (dv 1) (a_nil))))))
      (s_one (s_if (t_eq hr.units (dv 3) (d_int))
      (s_one (s_expr (d_call (d_touch T) hr (by decide) gd tk (a_cons (dv 0) (a_cons (dv 1) (a_nil))))))
      (s_one (s_expr (d_call (d_relation T) hr (by decide) gd tk (a_cons (dv 0) (a_cons (dv 1) (a_nil))))))))))
      (fun a oe pn hz hd => s_one (s_asg (i := 2) nd rfl (by first | exact Or.inl rfl | exact Or.inr rfl) (d_add (dv 2) (d_intc T.z_int (d_isExT (T1 := "ValueError") hz hd T.xc_InvalidCircle T.z_isinstance T.z_ValueError (by decide +kernel) T.kk_InvalidCircle_ValueError (pv 4)))))))))
      (s_one (s_ret (d_eq hr.units (dv 2) (d_int))))))
/-! law -/
noncomputable def b_law (C_InvalidCircle : Addr) : Es := (seqS (asgS 1 (callE 2 F__law_numbers (consA (varE 0) (consA (cE (.int 40)) nilA))))
  (seqS (asgS 2 (callE 2 F__law_four (consA (varE 1) (consA (cE (.int 0)) nilA))))
  (seqS (asgS 3 (callE 2 F__law_fallen (consA (varE 2) (consA (lcE (rng1I (e2 modD (e1 intD (e2 ixD (varE 1) (cE (.int 30)))) (cE (.int 7)))) [8] (gN 8) yesB (e2 modD (e1 intD (e2 ixD (varE 1) (e2 addD (cE (.int 32)) (varE 8)))) (cE (.int 4)))) nilA))))
  (seqS (ifS (tst0 (e2 eqD (e2 modD (e1 intD (e2 ixD (varE 1) (cE (.int 31)))) (cE (.int 2))) (cE (.int 1))))
  (asgS 3 (callE 2 F__law_four (consA (varE 1) (consA (cE (.int 15)) nilA))))
  skipS)
  (seqS (forS (seqI (varE 2)) (gN 4)
  (forS (seqI (e2 addD (varE 3) (lstE (consA (varE 4) (consA (callE 1 F__law_opposite (consA (varE 4) nilA)) nilA))))) (gN 6)
  (forS (seqI (lstE (consA (varE 6) (consA (callE 1 F__law_opposite (consA (varE 6) nilA)) nilA)))) (gN 7)
  (seqS (asgS 9 (callE 2 F__law_relation (consA (varE 4) (consA (varE 7) nilA))))
  (seqS (ifS (orB (tst0 (e2 neD (callE 2 (F_double C_InvalidCircle) (consA (varE 4) (consA (varE 7) nilA))) (callE 2 F__law_double (consA (varE 4) (consA (varE 7) nilA))))) (tst0 (e2 neD (callE 2 (F_double C_InvalidCircle) (consA (e1 listD (varE 7)) (consA (e1 listD (varE 4)) nilA))) (callE 2 F__law_double (consA (varE 4) (consA (varE 7) nilA))))))
  (retS (cE (.bl false)))
  skipS)
  (seqS (asgS 10 (callE 2 (F_touch C_InvalidCircle) (consA (varE 4) (consA (varE 7) nilA))))
  (seqS (ifS (orB (notB (tstE (isiE (kitT "bool") (varE 10)))) (orB (tst0 (e2 neD (varE 10) (e2 eqD (varE 9) (cE (.str "touch"))))) (tst0 (e2 neD (callE 2 (F_touch C_InvalidCircle) (consA (e1 listD (varE 7)) (consA (varE 4) nilA))) (varE 10)))))
  (retS (cE (.bl false)))
  skipS)
  (ifS (orB (tst0 (e2 neD (callE 2 (F_relation C_InvalidCircle) (consA (varE 4) (consA (varE 7) nilA))) (varE 9))) (tst0 (e2 neD (callE 2 (F_relation C_InvalidCircle) (consA (varE 7) (consA (e1 listD (varE 4)) nilA))) (varE 9))))
  (retS (cE (.bl false)))
  skipS))))))))
  (seqS (asgS 5 (e2 ixD (lstE (consA (tupE (consA (cE (.int 1)) (consA (cE (.int 1)) (consA (cE (.int 1)) (consA (cE (.int 0)) nilA))))) (consA (tupE (consA (cE (.int 1)) (consA (cE (.int 2)) nilA))) (consA (tupE nilA) (consA (tupE (consA (cE (.int 0)) (consA (cE (.int 0)) (consA (cE (.int 0)) (consA (cE (.int 0)) nilA))))) nilA))))) (e2 modD (e1 intD (e2 ixD (varE 1) (cE (.int 39)))) (cE (.int 4)))))
  (retS (andE (callE 2 (F__law_refused C_InvalidCircle) (consA (varE 5) (consA (e2 ixD (varE 2) (cE (.int 0))) nilA))) (callE 2 (F__law_refused C_InvalidCircle) (consA (e2 ixD (varE 2) (cE (.int 0))) (consA (varE 5) nilA)))))))))))
noncomputable def F_law (C_InvalidCircle : Addr) : List D → Res D := runF 10 (b_law C_InvalidCircle)
theorem sc_law : FnScope ["script", "numbers", "first", "second", "one", "bad", "other", "far", "k", "due", "told"] ["script"] (defScope s_law) := ⟨rfl, rfl, rfl, by decide +kernel, rfl, by decide +kernel, by decide +kernel⟩
theorem w_law (T : Txt K mg C_InvalidCircle) {fa : Addr} (hfa : mg "law" = some (.ref fa)) : ∃ fd : FuncData, (∀ (s : Shared) (u : Value), BindsTo s fd ⟨[u], []⟩ [("script", u)]) ∧ ∀ base : Heap, K.In base → base.Ns mainGlobals mg → FnG P w K mg base 6 fa fd ["script"] (spD K 1 (F_law C_InvalidCircle)) :=
  lawOf (k := 5) T.a_law hfa sc_law rfl (fun base f cdv A outer s H E hr gd => by
    have nd := sc_law.nd
    have tk := takes_of (X := cxOf (L2.CX P w) P w K mg base ["script", "numbers", "first", "second", "one", "bad", "other", "far", "k", "due", "told"] "law" (defScope s_law) f cdv A outer s H E) rfl rfl rfl rfl
    have hp := passes_of (X := cxOf (L2.CX P w) P w K mg base ["script", "numbers", "first", "second", "one", "bad", "other", "far", "k", "due", "told"] "law" (defScope s_law) f cdv A outer s H E) rfl
    exact s_cons (s_asg (i := 1) nd rfl (by first | exact Or.inl rfl | exact Or.inr rfl) (d_call (d__law_numbers T) hr (by decide) gd tk (a_cons (dv 0) (a_cons (d_int) (a_nil)))))
      (s_cons (s_asg (i := 2) nd rfl (by first | exact Or.inl rfl | exact Or.inr rfl) (d_call (d__law_four T) hr (by decide) gd tk (a_cons (dv 1) (a_cons (d_int) (a_nil)))))
      (s_cons (s_asg (i := 3) nd rfl (by first | exact Or.inl rfl | exact Or.inr rfl) (d_call (d__law_fallen T) hr (by decide) gd tk (a_cons (dv 2) (a_cons (d_lc (own := [("k", 8)]) rfl nd (i_range1 T.z_range (d_mod (d_intc T.z_int (d_ix (dv 1) (d_int))) (d_int))) (blkOk_by (show blkC ["script", "numbers", "first", "second", "one", "bad", "other", "far", "k", "due", "told"] (defScope s_law) _ _ = true by decide +kernel)) gN_ok gin_name (fun _ _ _ _ _ => pg_name (i := 8) nd rfl (by first | exact Or.inl rfl | exact Or.inr rfl)) (fun _ _ _ _ _ => pts_none _) (fun _ _ _ _ _ => d_mod (d_intc T.z_int (d_ix (dv 1) (d_add (d_int) (dv 8)))) (d_int))) (a_nil)))))
      (s_cons (s_if (t_eq hr.units (d_mod (d_intc T.z_int (d_ix (dv 1) (d_int))) (d_int)) (d_int))
      (s_one (s_asg (i := 3) nd rfl (by first | exact Or.inl rfl | exact Or.inr rfl) (d_call (d__law_four T) hr (by decide) gd tk (a_cons (dv 1) (a_cons (d_int) (a_nil))))))
      (s_nil))
      (s_cons (s_for hp rfl (i_seq (dv 2)) (pg_name (i := 4) nd rfl (by first | exact Or.inl rfl | exact Or.inr rfl)) gN_ok
      (s_one (s_for hp rfl (i_seq (d_add (dv 3) (d_lst (a_cons (dv 4) (a_cons (d_call (d__law_opposite T) hr (by decide) gd tk (a_cons (dv 4) (a_nil))) (a_nil)))))) (pg_name (i := 6) nd rfl (by first | exact Or.inl rfl | exact Or.inr rfl)) gN_ok
      (s_one (s_for hp rfl (i_seq (d_lst (a_cons (dv 6) (a_cons (d_call (d__law_opposite T) hr (by decide) gd tk (a_cons (dv 6) (a_nil))) (a_nil))))) (pg_name (i := 7) nd rfl (by first | exact Or.inl rfl | exact Or.inr rfl)) gN_ok
      (s_cons (s_asg (i := 9) nd rfl (by first | exact Or.inl rfl | exact Or.inr rfl) (d_call (d__law_relation T) hr (by decide) gd tk (a_cons (dv 4) (a_cons (dv 7) (a_nil)))))
      (s_cons (s_if (t_w (w_or (t_ne hr.units (d_call (d_double T) hr (by decide) gd tk (a_cons (dv 4) (a_cons (dv 7) (a_nil)))) (d_call (d__law_double T) hr (by decide) gd tk (a_cons (dv 4) (a_cons (dv 7) (a_nil))))) (w_or1 (t_ne hr.units (d_call (d_double T) hr (by decide) gd tk (a_cons (d_listc T.z_list (dv 7)) (a_cons (d_listc T.z_list (dv 4)) (a_nil)))) (d_call (d__law_double T) hr (by decide) gd tk (a_cons (dv 4) (a_cons (dv 7) (a_nil))))))))
      (s_one (s_ret (d_bl)))
      (s_nil))
      (s_cons (s_asg (i := 10) nd rfl (by first | exact Or.inl rfl | exact Or.inr rfl) (d_call (d_touch T) hr (by decide) gd tk (a_cons (dv 4) (a_cons (dv 7) (a_nil)))))
      (s_cons (s_if (t_w (w_or (t_not (t_val (d_isi (T1 := "bool") T.z_isinstance T.z_bool (by decide +kernel) (dv 10)))) (w_or (t_ne hr.units (dv 10) (d_eq hr.units (dv 9) (d_str))) (w_or1 (t_ne hr.units (d_call (d_touch T) hr (by decide) gd tk (a_cons (d_listc T.z_list (dv 7)) (a_cons (dv 4) (a_nil)))) (dv 10))))))
      (s_one (s_ret (d_bl)))
      (s_nil))
      (s_one (s_if (t_w (w_or (t_ne hr.units (d_call (d_relation T) hr (by decide) gd tk (a_cons (dv 4) (a_cons (dv 7) (a_nil)))) (dv 9)) (w_or1 (t_ne hr.units (d_call (d_relation T) hr (by decide) gd tk (a_cons (dv 7) (a_cons (d_listc T.z_list (dv 4)) (a_nil)))) (dv 9)))))
      (s_one (s_ret (d_bl)))
      (s_nil))))))))))))
      (s_cons (s_asg (i := 5) nd rfl (by first | exact Or.inl rfl | exact Or.inr rfl) (d_ix (d_lst (a_cons (d_tup (a_cons (d_int) (a_cons (d_int) (a_cons (d_int) (a_cons (d_int) (a_nil)))))) (a_cons (d_tup (a_cons (d_int) (a_cons (d_int) (a_nil)))) (a_cons (d_tup (a_nil)) (a_cons (d_tup (a_cons (d_int) (a_cons (d_int) (a_cons (d_int) (a_cons (d_int) (a_nil)))))) (a_nil)))))) (d_mod (d_intc T.z_int (d_ix (dv 1) (d_int))) (d_int))))
      (s_one (s_ret (d_and (d_call (d__law_refused T) hr (by decide) gd tk (a_cons (dv 5) (a_cons (d_ix (dv 2) (d_int)) (a_nil)))) (d_one (d_call (d__law_refused T) hr (by decide) gd tk (a_cons (d_ix (dv 2) (d_int)) (a_cons (dv 5) (a_nil))))))))))))))
end
theorem txt_mk {K : PySem.W.Frag} {h : Heap} {mg : Str → Option Value} {C_InvalidCircle : Addr} (X : K.In h) (G : h.Ns mainGlobals mg)
    {f0 : Addr} {oc0 kV0 doc0 pm0 cdv0 ct0 : Value} {od0 an0 : Option Addr} {osl0 : Array (Option Value)}
    {f1 : Addr} {oc1 kV1 doc1 pm1 cdv1 ct1 : Value} {od1 an1 : Option Addr} {osl1 : Array (Option Value)}
    {f2 : Addr} {oc2 kV2 doc2 pm2 cdv2 ct2 : Value} {od2 an2 : Option Addr} {osl2 : Array (Option Value)}
    {f3 : Addr} {oc3 kV3 doc3 pm3 cdv3 ct3 : Value} {od3 an3 : Option Addr} {osl3 : Array (Option Value)}
    {f4 : Addr} {oc4 kV4 doc4 pm4 cdv4 ct4 : Value} {od4 an4 : Option Addr} {osl4 : Array (Option Value)}
    {f5 : Addr} {oc5 kV5 doc5 pm5 cdv5 ct5 : Value} {od5 an5 : Option Addr} {osl5 : Array (Option Value)}
    {f6 : Addr} {oc6 kV6 doc6 pm6 cdv6 ct6 : Value} {od6 an6 : Option Addr} {osl6 : Array (Option Value)}
    {f7 : Addr} {oc7 kV7 doc7 pm7 cdv7 ct7 : Value} {od7 an7 : Option Addr} {osl7 : Array (Option Value)}
    {f8 : Addr} {oc8 kV8 doc8 pm8 cdv8 ct8 : Value} {od8 an8 : Option Addr} {osl8 : Array (Option Value)}
    {f9 : Addr} {oc9 kV9 doc9 pm9 cdv9 ct9 : Value} {od9 an9 : Option Addr} {osl9 : Array (Option Value)}
    {f10 : Addr} {oc10 kV10 doc10 pm10 cdv10 ct10 : Value} {od10 an10 : Option Addr} {osl10 : Array (Option Value)}
    {f11 : Addr} {oc11 kV11 doc11 pm11 cdv11 ct11 : Value} {od11 an11 : Option Addr} {osl11 : Array (Option Value)}
    {f12 : Addr} {oc12 kV12 doc12 pm12 cdv12 ct12 : Value} {od12 an12 : Option Addr} {osl12 : Array (Option Value)}
    {f13 : Addr} {oc13 kV13 doc13 pm13 cdv13 ct13 : Value} {od13 an13 : Option Addr} {osl13 : Array (Option Value)}
    {f14 : Addr} {oc14 kV14 doc14 pm14 cdv14 ct14 : Value} {od14 an14 : Option Addr} {osl14 : Array (Option Value)}
    {f15 : Addr} {oc15 kV15 doc15 pm15 cdv15 ct15 : Value} {od15 an15 : Option Addr} {osl15 : Array (Option Value)}
    {f16 : Addr} {oc16 kV16 doc16 pm16 cdv16 ct16 : Value} {od16 an16 : Option Addr} {osl16 : Array (Option Value)}
    {f17 : Addr} {oc17 kV17 doc17 pm17 cdv17 ct17 : Value} {od17 an17 : Option Addr} {osl17 : Array (Option Value)}
    {f18 : Addr} {oc18 kV18 doc18 pm18 cdv18 ct18 : Value} {od18 an18 : Option Addr} {osl18 : Array (Option Value)}
    {f19 : Addr} {oc19 kV19 doc19 pm19 cdv19 ct19 : Value} {od19 an19 : Option Addr} {osl19 : Array (Option Value)}
    {f20 : Addr} {oc20 kV20 doc20 pm20 cdv20 ct20 : Value} {od20 an20 : Option Addr} {osl20 : Array (Option Value)}
    {f21 : Addr} {oc21 kV21 doc21 pm21 cdv21 ct21 : Value} {od21 an21 : Option Addr} {osl21 : Array (Option Value)}
    {f22 : Addr} {oc22 kV22 doc22 pm22 cdv22 ct22 : Value} {od22 an22 : Option Addr} {osl22 : Array (Option Value)}
    (z_len : PySem.W.nsIn K mainGlobals "len" = some none)
    (z_tuple : PySem.W.nsIn K mainGlobals "tuple" = some none)
    (z_abs : PySem.W.nsIn K mainGlobals "abs" = some none)
    (z_int : PySem.W.nsIn K mainGlobals "int" = some none)
    (z_range : PySem.W.nsIn K mainGlobals "range" = some none)
    (z_max : PySem.W.nsIn K mainGlobals "max" = some none)
    (z_sum : PySem.W.nsIn K mainGlobals "sum" = some none)
    (z_list : PySem.W.nsIn K mainGlobals "list" = some none)
    (z_isinstance : PySem.W.nsIn K mainGlobals "isinstance" = some none)
    (z_ValueError : PySem.W.nsIn K mainGlobals "ValueError" = some none)
    (z_bool : PySem.W.nsIn K mainGlobals "bool" = some none)
    (a_is_circle : PySem.W.nsIn K mainGlobals "is_circle" = some (some (.ref f0))) (l_is_circle : K.lookup f0 = some ⟨oc0, od0, .func (PySem.W.fnOf "is_circle" "is_circle" (defArgs s_is_circle) (defBody s_is_circle) (defScope s_is_circle) .none kV0 doc0 pm0 an0 cdv0 ct0), osl0⟩) (c_is_circle : PySem.W.codeIn K cdv0 "is_circle" = true) (k_is_circle : PySem.W.keepIn K (.ref f0) = true)
    (a_check_circle : PySem.W.nsIn K mainGlobals "check_circle" = some (some (.ref f1))) (l_check_circle : K.lookup f1 = some ⟨oc1, od1, .func (PySem.W.fnOf "check_circle" "check_circle" (defArgs s_check_circle) (defBody s_check_circle) (defScope s_check_circle) .none kV1 doc1 pm1 an1 cdv1 ct1), osl1⟩) (c_check_circle : PySem.W.codeIn K cdv1 "check_circle" = true) (k_check_circle : PySem.W.keepIn K (.ref f1) = true)
    (a_check_two : PySem.W.nsIn K mainGlobals "check_two" = some (some (.ref f2))) (l_check_two : K.lookup f2 = some ⟨oc2, od2, .func (PySem.W.fnOf "check_two" "check_two" (defArgs s_check_two) (defBody s_check_two) (defScope s_check_two) .none kV2 doc2 pm2 an2 cdv2 ct2), osl2⟩) (c_check_two : PySem.W.codeIn K cdv2 "check_two" = true) (k_check_two : PySem.W.keepIn K (.ref f2) = true)
    (a_double_of : PySem.W.nsIn K mainGlobals "double_of" = some (some (.ref f3))) (l_double_of : K.lookup f3 = some ⟨oc3, od3, .func (PySem.W.fnOf "double_of" "double_of" (defArgs s_double_of) (defBody s_double_of) (defScope s_double_of) .none kV3 doc3 pm3 an3 cdv3 ct3), osl3⟩) (c_double_of : PySem.W.codeIn K cdv3 "double_of" = true) (k_double_of : PySem.W.keepIn K (.ref f3) = true)
    (a_double : PySem.W.nsIn K mainGlobals "double" = some (some (.ref f4))) (l_double : K.lookup f4 = some ⟨oc4, od4, .func (PySem.W.fnOf "double" "double" (defArgs s_double) (defBody s_double) (defScope s_double) .none kV4 doc4 pm4 an4 cdv4 ct4), osl4⟩) (c_double : PySem.W.codeIn K cdv4 "double" = true) (k_double : PySem.W.keepIn K (.ref f4) = true)
    (a_are_outward : PySem.W.nsIn K mainGlobals "are_outward" = some (some (.ref f5))) (l_are_outward : K.lookup f5 = some ⟨oc5, od5, .func (PySem.W.fnOf "are_outward" "are_outward" (defArgs s_are_outward) (defBody s_are_outward) (defScope s_are_outward) .none kV5 doc5 pm5 an5 cdv5 ct5), osl5⟩) (c_are_outward : PySem.W.codeIn K cdv5 "are_outward" = true) (k_are_outward : PySem.W.keepIn K (.ref f5) = true)
    (a_are_touching : PySem.W.nsIn K mainGlobals "are_touching" = some (some (.ref f6))) (l_are_touching : K.lookup f6 = some ⟨oc6, od6, .func (PySem.W.fnOf "are_touching" "are_touching" (defArgs s_are_touching) (defBody s_are_touching) (defScope s_are_touching) .none kV6 doc6 pm6 an6 cdv6 ct6), osl6⟩) (c_are_touching : PySem.W.codeIn K cdv6 "are_touching" = true) (k_are_touching : PySem.W.keepIn K (.ref f6) = true)
    (a_touch : PySem.W.nsIn K mainGlobals "touch" = some (some (.ref f7))) (l_touch : K.lookup f7 = some ⟨oc7, od7, .func (PySem.W.fnOf "touch" "touch" (defArgs s_touch) (defBody s_touch) (defScope s_touch) .none kV7 doc7 pm7 an7 cdv7 ct7), osl7⟩) (c_touch : PySem.W.codeIn K cdv7 "touch" = true) (k_touch : PySem.W.keepIn K (.ref f7) = true)
    (a_opposite : PySem.W.nsIn K mainGlobals "opposite" = some (some (.ref f8))) (l_opposite : K.lookup f8 = some ⟨oc8, od8, .func (PySem.W.fnOf "opposite" "opposite" (defArgs s_opposite) (defBody s_opposite) (defScope s_opposite) .none kV8 doc8 pm8 an8 cdv8 ct8), osl8⟩) (c_opposite : PySem.W.codeIn K cdv8 "opposite" = true) (k_opposite : PySem.W.keepIn K (.ref f8) = true)
    (a_relation : PySem.W.nsIn K mainGlobals "relation" = some (some (.ref f9))) (l_relation : K.lookup f9 = some ⟨oc9, od9, .func (PySem.W.fnOf "relation" "relation" (defArgs s_relation) (defBody s_relation) (defScope s_relation) .none kV9 doc9 pm9 an9 cdv9 ct9), osl9⟩) (c_relation : PySem.W.codeIn K cdv9 "relation" = true) (k_relation : PySem.W.keepIn K (.ref f9) = true)
    (a__law_row : PySem.W.nsIn K mainGlobals "_law_row" = some (some (.ref f10))) (l__law_row : K.lookup f10 = some ⟨oc10, od10, .func (PySem.W.fnOf "_law_row" "_law_row" (defArgs s__law_row) (defBody s__law_row) (defScope s__law_row) .none kV10 doc10 pm10 an10 cdv10 ct10), osl10⟩) (c__law_row : PySem.W.codeIn K cdv10 "_law_row" = true) (k__law_row : PySem.W.keepIn K (.ref f10) = true)
    (a__law_numbers : PySem.W.nsIn K mainGlobals "_law_numbers" = some (some (.ref f11))) (l__law_numbers : K.lookup f11 = some ⟨oc11, od11, .func (PySem.W.fnOf "_law_numbers" "_law_numbers" (defArgs s__law_numbers) (defBody s__law_numbers) (defScope s__law_numbers) .none kV11 doc11 pm11 an11 cdv11 ct11), osl11⟩) (c__law_numbers : PySem.W.codeIn K cdv11 "_law_numbers" = true) (k__law_numbers : PySem.W.keepIn K (.ref f11) = true)
    (a__law_other : PySem.W.nsIn K mainGlobals "_law_other" = some (some (.ref f12))) (l__law_other : K.lookup f12 = some ⟨oc12, od12, .func (PySem.W.fnOf "_law_other" "_law_other" (defArgs s__law_other) (defBody s__law_other) (defScope s__law_other) .none kV12 doc12 pm12 an12 cdv12 ct12), osl12⟩) (c__law_other : PySem.W.codeIn K cdv12 "_law_other" = true) (k__law_other : PySem.W.keepIn K (.ref f12) = true)
    (a__law_fallen : PySem.W.nsIn K mainGlobals "_law_fallen" = some (some (.ref f13))) (l__law_fallen : K.lookup f13 = some ⟨oc13, od13, .func (PySem.W.fnOf "_law_fallen" "_law_fallen" (defArgs s__law_fallen) (defBody s__law_fallen) (defScope s__law_fallen) .none kV13 doc13 pm13 an13 cdv13 ct13), osl13⟩) (c__law_fallen : PySem.W.codeIn K cdv13 "_law_fallen" = true) (k__law_fallen : PySem.W.keepIn K (.ref f13) = true)
    (a__law_given : PySem.W.nsIn K mainGlobals "_law_given" = some (some (.ref f14))) (l__law_given : K.lookup f14 = some ⟨oc14, od14, .func (PySem.W.fnOf "_law_given" "_law_given" (defArgs s__law_given) (defBody s__law_given) (defScope s__law_given) .none kV14 doc14 pm14 an14 cdv14 ct14), osl14⟩) (c__law_given : PySem.W.codeIn K cdv14 "_law_given" = true) (k__law_given : PySem.W.keepIn K (.ref f14) = true)
    (a__law_moved : PySem.W.nsIn K mainGlobals "_law_moved" = some (some (.ref f15))) (l__law_moved : K.lookup f15 = some ⟨oc15, od15, .func (PySem.W.fnOf "_law_moved" "_law_moved" (defArgs s__law_moved) (defBody s__law_moved) (defScope s__law_moved) .none kV15 doc15 pm15 an15 cdv15 ct15), osl15⟩) (c__law_moved : PySem.W.codeIn K cdv15 "_law_moved" = true) (k__law_moved : PySem.W.keepIn K (.ref f15) = true)
    (a__law_laid : PySem.W.nsIn K mainGlobals "_law_laid" = some (some (.ref f16))) (l__law_laid : K.lookup f16 = some ⟨oc16, od16, .func (PySem.W.fnOf "_law_laid" "_law_laid" (defArgs s__law_laid) (defBody s__law_laid) (defScope s__law_laid) .none kV16 doc16 pm16 an16 cdv16 ct16), osl16⟩) (c__law_laid : PySem.W.codeIn K cdv16 "_law_laid" = true) (k__law_laid : PySem.W.keepIn K (.ref f16) = true)
    (a__law_four : PySem.W.nsIn K mainGlobals "_law_four" = some (some (.ref f17))) (l__law_four : K.lookup f17 = some ⟨oc17, od17, .func (PySem.W.fnOf "_law_four" "_law_four" (defArgs s__law_four) (defBody s__law_four) (defScope s__law_four) .none kV17 doc17 pm17 an17 cdv17 ct17), osl17⟩) (c__law_four : PySem.W.codeIn K cdv17 "_law_four" = true) (k__law_four : PySem.W.keepIn K (.ref f17) = true)
    (a__law_double : PySem.W.nsIn K mainGlobals "_law_double" = some (some (.ref f18))) (l__law_double : K.lookup f18 = some ⟨oc18, od18, .func (PySem.W.fnOf "_law_double" "_law_double" (defArgs s__law_double) (defBody s__law_double) (defScope s__law_double) .none kV18 doc18 pm18 an18 cdv18 ct18), osl18⟩) (c__law_double : PySem.W.codeIn K cdv18 "_law_double" = true) (k__law_double : PySem.W.keepIn K (.ref f18) = true)
    (a__law_opposite : PySem.W.nsIn K mainGlobals "_law_opposite" = some (some (.ref f19))) (l__law_opposite : K.lookup f19 = some ⟨oc19, od19, .func (PySem.W.fnOf "_law_opposite" "_law_opposite" (defArgs s__law_opposite) (defBody s__law_opposite) (defScope s__law_opposite) .none kV19 doc19 pm19 an19 cdv19 ct19), osl19⟩) (c__law_opposite : PySem.W.codeIn K cdv19 "_law_opposite" = true) (k__law_opposite : PySem.W.keepIn K (.ref f19) = true)
    (a__law_relation : PySem.W.nsIn K mainGlobals "_law_relation" = some (some (.ref f20))) (l__law_relation : K.lookup f20 = some ⟨oc20, od20, .func (PySem.W.fnOf "_law_relation" "_law_relation" (defArgs s__law_relation) (defBody s__law_relation) (defScope s__law_relation) .none kV20 doc20 pm20 an20 cdv20 ct20), osl20⟩) (c__law_relation : PySem.W.codeIn K cdv20 "_law_relation" = true) (k__law_relation : PySem.W.keepIn K (.ref f20) = true)
    (a__law_refused : PySem.W.nsIn K mainGlobals "_law_refused" = some (some (.ref f21))) (l__law_refused : K.lookup f21 = some ⟨oc21, od21, .func (PySem.W.fnOf "_law_refused" "_law_refused" (defArgs s__law_refused) (defBody s__law_refused) (defScope s__law_refused) .none kV21 doc21 pm21 an21 cdv21 ct21), osl21⟩) (c__law_refused : PySem.W.codeIn K cdv21 "_law_refused" = true) (k__law_refused : PySem.W.keepIn K (.ref f21) = true)
    (a_law : PySem.W.nsIn K mainGlobals "law" = some (some (.ref f22))) (l_law : K.lookup f22 = some ⟨oc22, od22, .func (PySem.W.fnOf "law" "law" (defArgs s_law) (defBody s_law) (defScope s_law) .none kV22 doc22 pm22 an22 cdv22 ct22), osl22⟩) (c_law : PySem.W.codeIn K cdv22 "law" = true) (k_law : PySem.W.keepIn K (.ref f22) = true)
    (g_InvalidCircle : PySem.W.nsIn K mainGlobals "InvalidCircle" = some (some (.ref C_InvalidCircle)))
    (x_InvalidCircle : PySem.W.excIn K C_InvalidCircle [.type "ValueError", .type "Exception", .type "BaseException", .type "object"] "ValueError.__new__" = true) (q_InvalidCircle : PySem.W.keepIn K (.ref C_InvalidCircle) = true) (s_InvalidCircle : PySem.W.subIn K (.ref C_InvalidCircle) (.type "BaseException") = some true) (t_InvalidCircle : PySem.W.typeIn K (.ref C_InvalidCircle) = some (.type "type"))
    (su_InvalidCircle_InvalidCircle : PySem.W.subIn K (.ref C_InvalidCircle) (.ref C_InvalidCircle) = some true)
    (su_InvalidCircle_ValueError : PySem.W.subIn K (.ref C_InvalidCircle) (.type "ValueError") = some true)
    (hd_InvalidCircle : PySem.W.hasDictIn K C_InvalidCircle = true) (ty_InvalidCircle : PySem.W.typeIn K (.ref C_InvalidCircle) = some (.type "type"))
    (sb_InvalidCircle : PySem.W.subIn K (.ref C_InvalidCircle) (.type "BaseException") = some true)
    (xc_InvalidCircle_hg : PySem.W.findIn K (.ref C_InvalidCircle) "__getattribute__" = some (some (.builtin "BaseException.__getattribute__")))
    (xc_InvalidCircle_hk : PySem.W.findIn K (.ref C_InvalidCircle) "__getattr__" = some none)
    (xc_InvalidCircle_hs : PySem.W.subIn K (.ref C_InvalidCircle) (.type "BaseException") = some true)
    (xc_InvalidCircle_hd : PySem.W.hasDictIn K C_InvalidCircle = true)
    (xc_InvalidCircle_ha : PySem.W.findIn K (.ref C_InvalidCircle) "__class__" = some (some (.builtin "object.__class__")))
    (xc_InvalidCircle_hn : PySem.W.specialIn K (.builtin "object.__class__") "__get__" = some (some (.builtin "getset_descriptor.__get__")))
    (xc_InvalidCircle_ht : PySem.W.takesIn K (.builtin "object.__class__") = some true)
    (xc_InvalidCircle_hm : PySem.W.mroIn K C_InvalidCircle (.type "object") = some true)
    : Txt K mg C_InvalidCircle where
  z_len := PySem.W.mg_none_of X G z_len
  z_tuple := PySem.W.mg_none_of X G z_tuple
  z_abs := PySem.W.mg_none_of X G z_abs
  z_int := PySem.W.mg_none_of X G z_int
  z_range := PySem.W.mg_none_of X G z_range
  z_max := PySem.W.mg_none_of X G z_max
  z_sum := PySem.W.mg_none_of X G z_sum
  z_list := PySem.W.mg_none_of X G z_list
  z_isinstance := PySem.W.mg_none_of X G z_isinstance
  z_ValueError := PySem.W.mg_none_of X G z_ValueError
  z_bool := PySem.W.mg_none_of X G z_bool
  a_is_circle := At.mk' X G a_is_circle l_is_circle c_is_circle k_is_circle fun _ _ _ _ _ _ us hl => match us, hl with | [_], _ => rfl
  a_check_circle := At.mk' X G a_check_circle l_check_circle c_check_circle k_check_circle fun _ _ _ _ _ _ us hl => match us, hl with | [_], _ => rfl
  a_check_two := At.mk' X G a_check_two l_check_two c_check_two k_check_two fun _ _ _ _ _ _ us hl => match us, hl with | [_, _], _ => rfl
  a_double_of := At.mk' X G a_double_of l_double_of c_double_of k_double_of fun _ _ _ _ _ _ us hl => match us, hl with | [_, _], _ => rfl
  a_double := At.mk' X G a_double l_double c_double k_double fun _ _ _ _ _ _ us hl => match us, hl with | [_, _], _ => rfl
  a_are_outward := At.mk' X G a_are_outward l_are_outward c_are_outward k_are_outward fun _ _ _ _ _ _ us hl => match us, hl with | [_, _], _ => rfl
  a_are_touching := At.mk' X G a_are_touching l_are_touching c_are_touching k_are_touching fun _ _ _ _ _ _ us hl => match us, hl with | [_, _], _ => rfl
  a_touch := At.mk' X G a_touch l_touch c_touch k_touch fun _ _ _ _ _ _ us hl => match us, hl with | [_, _], _ => rfl
  a_opposite := At.mk' X G a_opposite l_opposite c_opposite k_opposite fun _ _ _ _ _ _ us hl => match us, hl with | [_], _ => rfl
  a_relation := At.mk' X G a_relation l_relation c_relation k_relation fun _ _ _ _ _ _ us hl => match us, hl with | [_, _], _ => rfl
  a__law_row := At.mk' X G a__law_row l__law_row c__law_row k__law_row fun _ _ _ _ _ _ us hl => match us, hl with | [_, _], _ => rfl
  a__law_numbers := At.mk' X G a__law_numbers l__law_numbers c__law_numbers k__law_numbers fun _ _ _ _ _ _ us hl => match us, hl with | [_, _], _ => rfl
  a__law_other := At.mk' X G a__law_other l__law_other c__law_other k__law_other fun _ _ _ _ _ _ us hl => match us, hl with | [_, _], _ => rfl
  a__law_fallen := At.mk' X G a__law_fallen l__law_fallen c__law_fallen k__law_fallen fun _ _ _ _ _ _ us hl => match us, hl with | [_, _], _ => rfl
  a__law_given := At.mk' X G a__law_given l__law_given c__law_given k__law_given fun _ _ _ _ _ _ us hl => match us, hl with | [_], _ => rfl
  a__law_moved := At.mk' X G a__law_moved l__law_moved c__law_moved k__law_moved fun _ _ _ _ _ _ us hl => match us, hl with | [_, _, _], _ => rfl
  a__law_laid := At.mk' X G a__law_laid l__law_laid c__law_laid k__law_laid fun _ _ _ _ _ _ us hl => match us, hl with | [_, _, _], _ => rfl
  a__law_four := At.mk' X G a__law_four l__law_four c__law_four k__law_four fun _ _ _ _ _ _ us hl => match us, hl with | [_, _], _ => rfl
  a__law_double := At.mk' X G a__law_double l__law_double c__law_double k__law_double fun _ _ _ _ _ _ us hl => match us, hl with | [_, _], _ => rfl
  a__law_opposite := At.mk' X G a__law_opposite l__law_opposite c__law_opposite k__law_opposite fun _ _ _ _ _ _ us hl => match us, hl with | [_], _ => rfl
  a__law_relation := At.mk' X G a__law_relation l__law_relation c__law_relation k__law_relation fun _ _ _ _ _ _ us hl => match us, hl with | [_, _], _ => rfl
  a__law_refused := At.mk' X G a__law_refused l__law_refused c__law_refused k__law_refused fun _ _ _ _ _ _ us hl => match us, hl with | [_, _], _ => rfl
  a_law := At.mk' X G a_law l_law c_law k_law fun _ _ _ _ _ _ us hl => match us, hl with | [_], _ => rfl
  e_InvalidCircle := ⟨x_InvalidCircle, PySem.W.mg_of X G g_InvalidCircle, q_InvalidCircle, s_InvalidCircle, t_InvalidCircle⟩
  g_InvalidCircle := PySem.W.mg_of X G g_InvalidCircle
  xm_InvalidCircle_InvalidCircle := PySem.W.exm_ref sb_InvalidCircle hd_InvalidCircle ty_InvalidCircle su_InvalidCircle_InvalidCircle
  xc_InvalidCircle := ⟨xc_InvalidCircle_hg, xc_InvalidCircle_hk, xc_InvalidCircle_hs, xc_InvalidCircle_hd, xc_InvalidCircle_ha, xc_InvalidCircle_hn, xc_InvalidCircle_ht, xc_InvalidCircle_hm⟩
  kk_InvalidCircle_ValueError := kit_ofT (by decide +kernel) su_InvalidCircle_ValueError
end DL

namespace DL
open PySem L2
local macro_rules
  | `(tactic| simp_arith [$xs,*]) => `(tactic| simp (config := {failIfUnchanged := false}) only [o0, o1, o2, o3, o4, o5, o6, o7, o8, o9, o10, o11, o12, o13, o14, o15, o16, o17, o18, o19, o20, o21, o22, o23, o24, o25, o26, o27, o28, o29, o30, o31, o32, o33, o34, o35, o36, o37, o38, o39, o40, o41, o42, o43, o44, o45, o46, o47, o48, at_seq, at_skip, at_asg, own_new, at_own, at_drop, at_ret, at_retN, rO_own, at_retOwn, at_if, at_brk, at_cnt, at_raise, ooS_some, unp1_tup, at_unp, setAll_nil, setAll_cons, par1_ok, par1_err, at_par2, frz1_own, frz1_v, at_frz, app0_own, at_app, app1_ok, pop0_own, at_pop, clr0_own, at_clr, aug0_int, aug1_int, at_aug, at_for, for_nil, gnx_some, for_cons, at_gN, at_gU,  at_e1, at_e2, at_st, vO_v, vO_own, at_var, at_c, settle_non, settle_bl, settle_int, settle_str, settle_lst, settle_tup, settle_frz, settle_new, add_int, add_str, add_tup, add_lst_lst, add_lst_new, add_lst_bor, add_new_lst, add_new_new, add_new_bor, add_bor_lst, add_bor_new, add_bor_bor, sub_int, mul_r, mul_l, fdiv_p, mod_p, pow_p, neg_int, lt_int, le_int, gt_int, ge_int, is_bl, ni_bl, is_n_non, ni_n_non, is_n_bl, ni_n_bl, is_n_int, ni_n_int, is_n_str, ni_n_str, is_n_lst, ni_n_lst, is_n_tup, ni_n_tup, is_n_new, ni_n_new, is_n_bor, ni_n_bor, items_lst, len_lst, list_lst, tuple_lst, ix_lst, tru_lst, rev_lst, slice_lst, ty_lst, sum_lst, all_lst, any_lst, items_new, len_new, list_new, tuple_new, ix_new, tru_new, rev_new, slice_new, ty_new, sum_new, all_new, any_new, items_bor, len_bor, list_bor, tuple_bor, ix_bor, tru_bor, rev_bor, slice_bor, ty_bor, sum_bor, all_bor, any_bor, len_tup, len_frz, len_str, list_tup, list_frz, tuple_tup, ix_tup, tru_tup, tru_bl, tru_int, tru_non, slice_tup, slice_frz, revT_tup, int_int, int_bl, abs_int, max_int, min_int, blO_bl, ty_non, ty_bl, ty_int, ty_str, ty_tup, at_tst, at_tst0, nB_ok, nB_err, at_notB, at_andB, at_orB, at_andE, at_orE, nE_ok, nE_err, at_notE, at_ifE, at_nilA, at_consA, tupL_ok, lstL_ok, at_tup, at_lst, callL_0, callL_1, callL_2, callL_3, callL_4, callL_5, at_call, at_chK, at_ch2, at_ch0, chR_ok, at_ch, at_isi, obl_some, isi1_at, kit2_t, kit2_f, at_kitT2, slc_ok, at_slice, at_noO, soO_int, at_someO, sq1_tup, sq1_lst, bl1_ok, bl1_err, bl1_st, at_seqI, rg1_int, at_rng1, rg2_int, rg0_ok, at_rng2, lc0_ok, at_lc, wipe_nil, wipe_cons, at_yes, kitT_int_int, kitT_int_bool, kitT_int_str, kitT_int_list, kitT_int_tuple, kitT_int_none, kitT_bool_int, kitT_bool_bool, kitT_bool_str, kitT_bool_list, kitT_bool_tuple, kitT_bool_none, kitT_tuple_int, kitT_tuple_bool, kitT_tuple_str, kitT_tuple_list, kitT_tuple_tuple, kitT_tuple_none, kitT_list_int, kitT_list_bool, kitT_list_str, kitT_list_list, kitT_list_tuple, kitT_list_none, kitT_str_int, kitT_str_bool, kitT_str_str, kitT_str_list, kitT_str_tuple, kitT_str_none, eqD_int, neD_int, eqD_bl, neD_bl, List.map_cons, List.map_nil, List.replicate, List.cons_append, List.nil_append, List.set_cons_zero, List.set_cons_succ, List.getElem?_cons_zero, List.getElem?_cons_succ, List.length_cons, List.length_nil, List.length_map, List.length_range, bind_ok, bind_err, bind_st, ofO_some, ofO_none, then_ok, then_err, then_st, Option.bind_some, Option.bind_none, Option.map_some, Option.map_none, Nat.zero_add, Nat.reduceAdd, Nat.reduceLeDiff, Nat.reduceEqDiff, ite_true, ite_false, if_true, if_false, reduceIte, Bool.not_true, Bool.not_false, Bool.false_eq_true, decide_eq_true_eq, Bool.not_eq_true, Int.reduceLT, Int.reduceLE, Int.reduceNeg, Int.reduceToNat, Int.reducePow, Int.reduceEq, Int.reduceAdd, Int.reduceSub, Int.reduceMul, Nat.reduceLT, decide_true, decide_false, $xs,*])
local macro_rules
  | `(tactic| simp_arith) => `(tactic| simp (config := {failIfUnchanged := false}) only [o0, o1, o2, o3, o4, o5, o6, o7, o8, o9, o10, o11, o12, o13, o14, o15, o16, o17, o18, o19, o20, o21, o22, o23, o24, o25, o26, o27, o28, o29, o30, o31, o32, o33, o34, o35, o36, o37, o38, o39, o40, o41, o42, o43, o44, o45, o46, o47, o48, at_seq, at_skip, at_asg, own_new, at_own, at_drop, at_ret, at_retN, rO_own, at_retOwn, at_if, at_brk, at_cnt, at_raise, ooS_some, unp1_tup, at_unp, setAll_nil, setAll_cons, par1_ok, par1_err, at_par2, frz1_own, frz1_v, at_frz, app0_own, at_app, app1_ok, pop0_own, at_pop, clr0_own, at_clr, aug0_int, aug1_int, at_aug, at_for, for_nil, gnx_some, for_cons, at_gN, at_gU,  at_e1, at_e2, at_st, vO_v, vO_own, at_var, at_c, settle_non, settle_bl, settle_int, settle_str, settle_lst, settle_tup, settle_frz, settle_new, add_int, add_str, add_tup, add_lst_lst, add_lst_new, add_lst_bor, add_new_lst, add_new_new, add_new_bor, add_bor_lst, add_bor_new, add_bor_bor, sub_int, mul_r, mul_l, fdiv_p, mod_p, pow_p, neg_int, lt_int, le_int, gt_int, ge_int, is_bl, ni_bl, is_n_non, ni_n_non, is_n_bl, ni_n_bl, is_n_int, ni_n_int, is_n_str, ni_n_str, is_n_lst, ni_n_lst, is_n_tup, ni_n_tup, is_n_new, ni_n_new, is_n_bor, ni_n_bor, items_lst, len_lst, list_lst, tuple_lst, ix_lst, tru_lst, rev_lst, slice_lst, ty_lst, sum_lst, all_lst, any_lst, items_new, len_new, list_new, tuple_new, ix_new, tru_new, rev_new, slice_new, ty_new, sum_new, all_new, any_new, items_bor, len_bor, list_bor, tuple_bor, ix_bor, tru_bor, rev_bor, slice_bor, ty_bor, sum_bor, all_bor, any_bor, len_tup, len_frz, len_str, list_tup, list_frz, tuple_tup, ix_tup, tru_tup, tru_bl, tru_int, tru_non, slice_tup, slice_frz, revT_tup, int_int, int_bl, abs_int, max_int, min_int, blO_bl, ty_non, ty_bl, ty_int, ty_str, ty_tup, at_tst, at_tst0, nB_ok, nB_err, at_notB, at_andB, at_orB, at_andE, at_orE, nE_ok, nE_err, at_notE, at_ifE, at_nilA, at_consA, tupL_ok, lstL_ok, at_tup, at_lst, callL_0, callL_1, callL_2, callL_3, callL_4, callL_5, at_call, at_chK, at_ch2, at_ch0, chR_ok, at_ch, at_isi, obl_some, isi1_at, kit2_t, kit2_f, at_kitT2, slc_ok, at_slice, at_noO, soO_int, at_someO, sq1_tup, sq1_lst, bl1_ok, bl1_err, bl1_st, at_seqI, rg1_int, at_rng1, rg2_int, rg0_ok, at_rng2, lc0_ok, at_lc, wipe_nil, wipe_cons, at_yes, kitT_int_int, kitT_int_bool, kitT_int_str, kitT_int_list, kitT_int_tuple, kitT_int_none, kitT_bool_int, kitT_bool_bool, kitT_bool_str, kitT_bool_list, kitT_bool_tuple, kitT_bool_none, kitT_tuple_int, kitT_tuple_bool, kitT_tuple_str, kitT_tuple_list, kitT_tuple_tuple, kitT_tuple_none, kitT_list_int, kitT_list_bool, kitT_list_str, kitT_list_list, kitT_list_tuple, kitT_list_none, kitT_str_int, kitT_str_bool, kitT_str_str, kitT_str_list, kitT_str_tuple, kitT_str_none, eqD_int, neD_int, eqD_bl, neD_bl, List.map_cons, List.map_nil, List.replicate, List.cons_append, List.nil_append, List.set_cons_zero, List.set_cons_succ, List.getElem?_cons_zero, List.getElem?_cons_succ, List.length_cons, List.length_nil, List.length_map, List.length_range, bind_ok, bind_err, bind_st, ofO_some, ofO_none, then_ok, then_err, then_st, Option.bind_some, Option.bind_none, Option.map_some, Option.map_none, Nat.zero_add, Nat.reduceAdd, Nat.reduceLeDiff, Nat.reduceEqDiff, ite_true, ite_false, if_true, if_false, reduceIte, Bool.not_true, Bool.not_false, Bool.false_eq_true, decide_eq_true_eq, Bool.not_eq_true, Int.reduceLT, Int.reduceLE, Int.reduceNeg, Int.reduceToNat, Int.reducePow, Int.reduceEq, Int.reduceAdd, Int.reduceSub, Int.reduceMul, Nat.reduceLT, decide_true, decide_false])
abbrev BB : Int := 1000000000000000000000000000000
structure Gd (p : C4) : Prop where
  le : p.le 1000000000000000000000000000000
  one : p.one = true
theorem Gd.neg {p : C4} (h : Gd p) : Gd (negM p) := ⟨neg_le h.le, by rw [neg_one]; exact h.one⟩
section
variable {C : Addr} {d e : D} {p q : C4}
theorem chk2 (i : IsC d p) (h : Gd p) : F_check_circle C [d] = .ok .non := ckc_ok i.set (by rw [show F_is_circle [d] = _ from cir_sm i h.le, h.one])
theorem ck22 (i : IsC d p) (h : Gd p) (j : IsC e q) (g : Gd q) : F_check_two C [d, e] = .ok .non := ck2_ok i.set j.set (chk2 i h) (chk2 j g)
theorem do2 (i : IsC d p) (h : Gd p) (j : IsC e q) (g : Gd q) : F_double_of [d, e] = .ok (.int (dbl p q)) := dblB_ok i j h.le g.le
theorem db2 (i : IsC d p) (h : Gd p) (j : IsC e q) (g : Gd q) : F_double C [d, e] = .ok (.int (dbl p q)) := dob_ok i.set j.set (ck22 i h j g) (do2 i h j g)
theorem at2 (i : IsC d p) (h : Gd p) (j : IsC e q) (g : Gd q) : F_are_touching [d, e] = .ok (.bl (tchV p q)) := tch_ok i.set j.set (do2 i h j g) (out_ok i j)
theorem to2 (i : IsC d p) (h : Gd p) (j : IsC e q) (g : Gd q) : F_touch C [d, e] = .ok (.bl (tchV p q)) := dob_bl i.set j.set (ck22 i h j g) (at2 i h j g)
theorem re2 (i : IsC d p) (h : Gd p) (j : IsC e q) (g : Gd q) : F_relation C [d, e] = .ok (.str (relS p q)) := rel_ok i j (ck22 i h j g) (opp_ok i (chk2 i h)) (do2 i h j g) (out_ok i j)
theorem ld2 (h : Gd p) (g : Gd q) : F__law_double [.tup [.int p.b, .int p.c, .int p.x, .int p.y], .tup [.int q.b, .int q.c, .int q.x, .int q.y]] = .ok (.int (dbl p q)) := ldv_ok h.le g.le
theorem lo2 (q : C4) : F__law_opposite [.tup [.int q.b, .int q.c, .int q.x, .int q.y]] = .ok (.tup [.int (negM q).b, .int (negM q).c, .int (negM q).x, .int (negM q).y]) := lop_ok q
theorem lr2 (h : Gd p) (g : Gd q) : F__law_relation [.tup [.int p.b, .int p.c, .int p.x, .int p.y], .tup [.int q.b, .int q.c, .int q.x, .int q.y]] = .ok (.str (relS p q)) := lre_ok (ld2 h g) (lop_ok q)
end
theorem tchV_comm (p q : C4) : tchV q p = tchV p q := by unfold tchV; rw [dbl_comm, outw_comm]
theorem ls_inj {p q : C4} (h : (p.ls == q.ls) = true) : p = q := by
  rw [beq_iff_eq] at h
  unfold C4.ls at h
  simp only [List.cons.injEq, and_true] at h
  cases p; cases q
  simp only at h
  simp only [C4.mk.injEq]
  exact h
theorem relS_touch {p : C4} (q : C4) (h : p.one = true) : (relS p q == Str.ofString "touch") = tchV p q := by
  unfold relS tchV
  by_cases z1 : (p.ls == q.ls) = true
  · rw [if_pos z1]
    have e := ls_inj z1
    subst e
    have e2 : ((2 : Int) == -2) = false := by decide
    rw [dbl_self h, e2, Bool.false_and]
    decide
  · rw [if_neg z1]
    by_cases z2 : ((negM p).ls == q.ls) = true
    · rw [if_pos z2]
      have e := ls_inj z2
      subst e
      have o : outw p (negM p) = false := by
        unfold outw negM
        simp only
        rw [Int.add_right_neg, Int.add_right_neg]
        decide
      rw [o, Bool.and_false]
      decide
    · rw [if_neg z2]
      by_cases z3 : dbl p q = -2
      · rw [if_pos z3, z3]
        cases outw p q <;> decide
      · have e3 : (dbl p q == -2) = false := by simp [z3]
        rw [if_neg z3, e3, Bool.false_and]
        repeat' split
        all_goals decide
noncomputable def lw3 (C : Addr) : Es := (seqS (asgS 9 (callE 2 F__law_relation (consA (varE 4) (consA (varE 7) nilA))))
  (seqS (ifS (orB (tst0 (e2 neD (callE 2 (F_double C) (consA (varE 4) (consA (varE 7) nilA))) (callE 2 F__law_double (consA (varE 4) (consA (varE 7) nilA))))) (tst0 (e2 neD (callE 2 (F_double C) (consA (e1 listD (varE 7)) (consA (e1 listD (varE 4)) nilA))) (callE 2 F__law_double (consA (varE 4) (consA (varE 7) nilA))))))
  (retS (cE (.bl false)))
  skipS)
  (seqS (asgS 10 (callE 2 (F_touch C) (consA (varE 4) (consA (varE 7) nilA))))
  (seqS (ifS (orB (notB (tstE (isiE (kitT "bool") (varE 10)))) (orB (tst0 (e2 neD (varE 10) (e2 eqD (varE 9) (cE (.str "touch"))))) (tst0 (e2 neD (callE 2 (F_touch C) (consA (e1 listD (varE 7)) (consA (varE 4) nilA))) (varE 10)))))
  (retS (cE (.bl false)))
  skipS)
  (ifS (orB (tst0 (e2 neD (callE 2 (F_relation C) (consA (varE 4) (consA (varE 7) nilA))) (varE 9))) (tst0 (e2 neD (callE 2 (F_relation C) (consA (varE 7) (consA (e1 listD (varE 4)) nilA))) (varE 9))))
  (retS (cE (.bl false)))
  skipS)))))
noncomputable def lw2 (C : Addr) : Es := (forS (seqI (lstE (consA (varE 6) (consA (callE 1 F__law_opposite (consA (varE 6) nilA)) nilA)))) (gN 7)
  (lw3 C))
noncomputable def lw1 (C : Addr) : Es := (forS (seqI (e2 addD (varE 3) (lstE (consA (varE 4) (consA (callE 1 F__law_opposite (consA (varE 4) nilA)) nilA))))) (gN 6)
  (lw2 C))
noncomputable def lawB (C : Addr) : Es := (seqS (asgS 1 (callE 2 F__law_numbers (consA (varE 0) (consA (cE (.int 40)) nilA))))
  (seqS (asgS 2 (callE 2 F__law_four (consA (varE 1) (consA (cE (.int 0)) nilA))))
  (seqS (asgS 3 (callE 2 F__law_fallen (consA (varE 2) (consA (lcE (rng1I (e2 modD (e1 intD (e2 ixD (varE 1) (cE (.int 30)))) (cE (.int 7)))) [8] (gN 8) yesB (e2 modD (e1 intD (e2 ixD (varE 1) (e2 addD (cE (.int 32)) (varE 8)))) (cE (.int 4)))) nilA))))
  (seqS (ifS (tst0 (e2 eqD (e2 modD (e1 intD (e2 ixD (varE 1) (cE (.int 31)))) (cE (.int 2))) (cE (.int 1))))
  (asgS 3 (callE 2 F__law_four (consA (varE 1) (consA (cE (.int 15)) nilA))))
  skipS)
  (seqS (forS (seqI (varE 2)) (gN 4)
  (lw1 C))
  (seqS (asgS 5 (e2 ixD (lstE (consA (tupE (consA (cE (.int 1)) (consA (cE (.int 1)) (consA (cE (.int 1)) (consA (cE (.int 0)) nilA))))) (consA (tupE (consA (cE (.int 1)) (consA (cE (.int 2)) nilA))) (consA (tupE nilA) (consA (tupE (consA (cE (.int 0)) (consA (cE (.int 0)) (consA (cE (.int 0)) (consA (cE (.int 0)) nilA))))) nilA))))) (e2 modD (e1 intD (e2 ixD (varE 1) (cE (.int 39)))) (cE (.int 4)))))
  (retS (andE (callE 2 (F__law_refused C) (consA (varE 5) (consA (e2 ixD (varE 2) (cE (.int 0))) nilA))) (callE 2 (F__law_refused C) (consA (e2 ixD (varE 2) (cE (.int 0))) (consA (varE 5) nilA)))))))))))
theorem lawB_eq (C : Addr) : F_law C = runF 10 (lawB C) := rfl
abbrev dd (p : C4) : D := .tup [.int p.b, .int p.c, .int p.x, .int p.y]
section
variable {C : Addr} (s0 s1 s2 s3 : Slot)
theorem st3 {p q : C4} (h : Gd p) (g : Gd q) (s5 s6 s8 s9 s10 : Slot) :
    lw3 C [s0, s1, s2, s3, .v (dd p), s5, s6, .v (dd q), s8, s9, s10] = .nx [s0, s1, s2, s3, .v (dd p), s5, s6, .v (dd q), s8, .v (.str (relS p q)), .v (.bl (tchV p q))] := by
  have a1 := lr2 h g
  have a2 := db2 (C := C) (.t p) h (.t q) g
  have a3 := ld2 h g
  have a4 := db2 (C := C) (.l q) g (.l p) h
  rw [dbl_comm] at a4
  have a5 := to2 (C := C) (.t p) h (.t q) g
  have a6 := to2 (C := C) (.l q) g (.t p) h
  rw [tchV_comm] at a6
  have a7 := re2 (C := C) (.t p) h (.t q) g
  have a8 := re2 (C := C) (.t q) g (.l p) h
  rw [relS_comm] at a8
  have e1 := eqD_str (relS_ok p q) (t := Str.ofString "touch") okS_lit
  rw [relS_touch q h.one] at e1
  have e2 := neD_str (relS_ok p q) (relS_ok p q)
  rw [beq_self_eq_true] at e2
  generalize relS p q = R at a1 a7 a8 e1 e2
  generalize tchV p q = V at a5 a6 e1
  generalize dbl p q = N at a2 a3 a4
  simp_arith [lw3, a1, a2, a3, a4, a5, a6, a7, a8, e1, e2, bne_self_eq_false]
def I3 (p q : C4) (ρ : Rho) : Prop := ∃ s5 s7 s8 s9 s10, ρ = [s0, s1, s2, s3, .v (dd p), s5, .v (dd q), s7, s8, s9, s10]
def I2 (p : C4) (ρ : Rho) : Prop := ∃ s5 s6 s7 s8 s9 s10, ρ = [s0, s1, s2, s3, .v (dd p), s5, s6, s7, s8, s9, s10]
def I1 (ρ : Rho) : Prop := ∃ s4 s5 s6 s7 s8 s9 s10, ρ = [s0, s1, s2, s3, s4, s5, s6, s7, s8, s9, s10]
theorem st2 {p q : C4} (h : Gd p) (g : Gd q) (s5 s7 s8 s9 s10 : Slot) : ∃ ρ', lw2 C [s0, s1, s2, s3, .v (dd p), s5, .v (dd q), s7, s8, s9, s10] = .nx ρ' ∧ I2 s0 s1 s2 s3 p ρ' := by
  have lo := lo2 q
  obtain ⟨ρ', e, t5, t7, t8, t9, t10, rfl⟩ := forO_inv (G := gN 7) (b := lw3 C) (I3 s0 s1 s2 s3 p q) [dd q, dd (negM q)] (fun d hd ρ hρ => by
    obtain ⟨t5, t7, t8, t9, t10, rfl⟩ := hρ
    simp only [List.mem_cons, List.not_mem_nil, or_false] at hd
    rcases hd with rfl | rfl
    · exact ⟨_, _, rfl, st3 s0 s1 s2 s3 h g t5 (.v (dd q)) t8 t9 t10, _, _, _, _, _, rfl⟩
    · exact ⟨_, _, rfl, st3 s0 s1 s2 s3 h g.neg t5 (.v (dd q)) t8 t9 t10, _, _, _, _, _, rfl⟩) [s0, s1, s2, s3, .v (dd p), s5, .v (dd q), s7, s8, s9, s10] ⟨s5, s7, s8, s9, s10, rfl⟩
  refine ⟨_, ?_, t5, .v (dd q), t7, t8, t9, t10, rfl⟩
  unfold dd at e
  simp_arith [lw2, lo, e]
theorem st1 {p a b c d : C4} (h : Gd p) (ha : Gd a) (hb : Gd b) (hc : Gd c) (hd : Gd d) (hs : s3 = .v (.lst [dd a, dd b, dd c, dd d])) (s5 s6 s7 s8 s9 s10 : Slot) : ∃ ρ', lw1 C [s0, s1, s2, s3, .v (dd p), s5, s6, s7, s8, s9, s10] = .nx ρ' ∧ I1 s0 s1 s2 s3 ρ' := by
  have lo := lo2 p
  obtain ⟨ρ', e, t5, t6, t7, t8, t9, t10, rfl⟩ := forO_inv (G := gN 6) (b := lw2 C) (I2 s0 s1 s2 s3 p) [dd a, dd b, dd c, dd d, dd p, dd (negM p)] (fun z hz ρ hρ => by
    obtain ⟨t5, t6, t7, t8, t9, t10, rfl⟩ := hρ
    have hg : ∃ q : C4, z = dd q ∧ Gd q := by
      simp only [List.mem_cons, List.not_mem_nil, or_false] at hz
      rcases hz with rfl | rfl | rfl | rfl | rfl | rfl
      · exact ⟨_, rfl, ha⟩
      · exact ⟨_, rfl, hb⟩
      · exact ⟨_, rfl, hc⟩
      · exact ⟨_, rfl, hd⟩
      · exact ⟨_, rfl, h⟩
      · exact ⟨_, rfl, h.neg⟩
    obtain ⟨q, rfl, g⟩ := hg
    obtain ⟨ρ2, e2, i2⟩ := st2 (C := C) s0 s1 s2 s3 h g t5 t7 t8 t9 t10
    exact ⟨_, ρ2, rfl, e2, i2⟩) [s0, s1, s2, s3, .v (dd p), s5, s6, s7, s8, s9, s10] ⟨s5, s6, s7, s8, s9, s10, rfl⟩
  refine ⟨_, ?_, .v (dd p), t5, t6, t7, t8, t9, t10, rfl⟩
  subst hs
  have n4 : 4 + 2 ≤ 16777216 := by decide
  unfold dd at e
  simp_arith [lw1, lo, e, n4]
end

theorem one_of {p : C4} (h : p.Q p = 2) : p.one = true := by
  unfold C4.Q at h
  unfold C4.one
  rw [beq_iff_eq]
  have : p.c * p.b = p.b * p.c := Int.mul_comm _ _
  omega
theorem law_four {L : List Int} {a : Int} (h0 : 0 ≤ a) (h1 : a + 13 < L.length) : ∃ p q r s : C4, F__law_four [.lst (il L), .int a] = .ok (.lst [p.d, q.d, r.d, s.d]) ∧ Four 600000000000000 p q r s :=
  fr_ok (gv := F__law_given) (ld := F__law_laid) (fl := F__law_fallen) gv_ok (fun h0 h1 => ld_ok (mv := F__law_moved) (fun p s t a b c d e => mv_ok p s t a b c d e) h0 h1) (fun hw h0 h => fl_ok (ot := F__law_other) (fun p q r s k a b => ot_ok p q r s a b) hw h0 h) h0 h1
theorem Four.gd {M : Int} {p q r s : C4} (h : Four M p q r s) (hM : M ≤ 1000000000000000000000000000000) : Gd p ∧ Gd q ∧ Gd r ∧ Gd s :=
  ⟨⟨h.p.mono hM, one_of h.tg.pp⟩, ⟨h.q.mono hM, one_of h.tg.qq⟩, ⟨h.r.mono hM, one_of h.tg.rr⟩, ⟨h.s.mono hM, one_of h.tg.ss⟩⟩
theorem ref2 {C : Addr} {d e : D} (hd : D.settle d = some d) (he : D.settle e = some e) (h : F_check_two C [d, e] = .err ⟨.ref C, none⟩) : F__law_refused C [d, e] = .ok (.bl true) := by
  have h1 : F_double C [d, e] = .err ⟨.ref C, none⟩ := dob_no hd he h
  have h2 : F_touch C [d, e] = .err ⟨.ref C, none⟩ := dob_no hd he h
  have h3 : F_relation C [d, e] = .err ⟨.ref C, none⟩ := rel_no hd he h
  have q0 : ((0 : Int) == 0) = true := rfl
  have q1 : ((1 : Int) == 0) = false := rfl
  have q2 : ((2 : Int) == 0) = false := rfl
  have q3 : ((1 : Int) == 1) = true := rfl
  have q4 : ((2 : Int) == 1) = false := rfl
  have q5 : ((3 : Int) == 3) = true := rfl
  unfold F__law_refused
  simp_arith [at_run, b__law_refused, rng3, at_tryAs, hd, he, h1, h2, h3, catchA_er, mtL_at, look_self, catch1_t, at_isEx, isE0_exc, clrO_nx, joinA_const, q0, q1, q2, q3, q4, q5]
theorem law_true {C : Addr} (ns : List Int) (hns : ns.length ≤ 63) : F_law C [.frz ns] = .ok (.bl true) := by
  obtain ⟨L, hL, hl, hin⟩ := ln_ok (w := n__law_numbers_0) (fun _ => rfl) ns hns 40 (by decide) (by decide)
  have hL' : F__law_numbers [.frz ns, .int 40] = .ok (.lst (il L)) := hL
  obtain ⟨p, q, r, s, f, hf⟩ := law_four (L := L) (a := 0) (by decide) (by omega)
  obtain ⟨p2, q2, r2, s2, f2, hf2⟩ := law_four (L := L) (a := 15) (by decide) (by omega)
  have i30 := atI_ints (l := L) (i := 30) (by decide) (by omega)
  have i31 := atI_ints (l := L) (i := 31) (by decide) (by omega)
  have i39 := atI_ints (l := L) (i := 39) (by decide) (by omega)
  generalize L.getD (30 : Int).toNat 0 = n0 at i30
  generalize L.getD (31 : Int).toNat 0 = n1 at i31
  generalize L.getD (39 : Int).toNat 0 = n2 at i39
  have h7 : (0 : Int) < 7 := by decide
  have h4 : (0 : Int) < 4 := by decide
  have h2 : (0 : Int) < 2 := by decide
  have m0 := Int.emod_nonneg n0 (show (7 : Int) ≠ 0 by decide)
  have m1 := Int.emod_lt_of_pos n0 h7
  have b0 := Int.emod_nonneg n2 (show (4 : Int) ≠ 0 by decide)
  have b1 := Int.emod_lt_of_pos n2 h4
  -- the word
  have hw : lcO (gN 8) yesB (e2 modD (e1 intD (e2 ixD (varE 1) (e2 addD (cE (.int 32)) (varE 8)))) (cE (.int 4))) [.v (.frz ns), .v (.lst (il L)), .v (.lst [p.d, q.d, r.d, s.d]), .un, .un, .un, .un, .un, .un, .un, .un] (rngI 0 (n0 % 7).toNat) =
      .ok ((rngI 0 (n0 % 7).toNat).map fun d => match d with | .int k => .int (L.getD (32 + k).toNat 0 % 4) | d => d) := by
    refine lc_map fun e he => ?_
    unfold rngI at he
    obtain ⟨k, hk, rfl⟩ := List.mem_map.mp he
    rw [List.mem_range] at hk
    refine ⟨_, rfl, rfl, ?_⟩
    have e1 := atI_ints (l := L) (i := 32 + (0 + (k : Int))) (by omega) (by omega)
    simp_arith [e1, h4]
  have hw2 : (rngI 0 (n0 % 7).toNat).map (fun d => match d with | .int k => D.int (L.getD (32 + k).toNat 0 % 4) | d => d) = il ((List.range (n0 % 7).toNat).map fun k : Nat => L.getD (32 + (0 + (k : Int))).toNat 0 % 4) := by
    unfold rngI il
    rw [List.map_map, List.map_map]
    rfl
  rw [hw2] at hw
  have wl : ((List.range (n0 % 7).toNat).map fun k : Nat => L.getD (32 + (0 + (k : Int))).toNat 0 % 4).length ≤ 6 := by
    rw [List.length_map, List.length_range]; omega
  have wm : ∀ x ∈ ((List.range (n0 % 7).toNat).map fun k : Nat => L.getD (32 + (0 + (k : Int))).toNat 0 % 4), 0 ≤ x ∧ x < 4 := by
    intro x hx
    obtain ⟨k, _, rfl⟩ := List.mem_map.mp hx
    exact ⟨Int.emod_nonneg _ (by decide), Int.emod_lt_of_pos _ h4⟩
  generalize ((List.range (n0 % 7).toNat).map fun k : Nat => L.getD (32 + (0 + (k : Int))).toNat 0 % 4) = w at hw wl wm
  obtain ⟨p3, q3, r3, s3, f3, hf3⟩ := fl_ok (ot := F__law_other) (fun p q r s k a b => ot_ok p q r s a b) (w := w) wm (M := 600000000000000) (by decide) hf
  have f3' : F__law_fallen [.lst [p.d, q.d, r.d, s.d], .lst (il w)] = _ := f3
  have hM : (600000000000000 : Int) * 7 ^ w.length ≤ 1000000000000000000000000000000 := by
    have e : (7 : Int) ^ w.length ≤ 7 ^ 6 := by
      have := Nat.pow_le_pow_right (show 0 < 7 by decide) wl
      exact_mod_cast this
    have e2 : (600000000000000 : Int) * 7 ^ w.length ≤ 600000000000000 * 7 ^ 6 := Int.mul_le_mul_of_nonneg_left e (by decide)
    exact Int.le_trans e2 (by decide)
  obtain ⟨g1, g2, g3, g4⟩ := hf.gd (by decide)
  have G2 := hf2.gd (by decide)
  have G3 := hf3.gd hM
  -- the second four
  have sec : ∃ a b c d : C4, Gd a ∧ Gd b ∧ Gd c ∧ Gd d ∧ (if (n1 % 2 == 1) = true then [p2.d, q2.d, r2.d, s2.d] else [p3.d, q3.d, r3.d, s3.d]) = [dd a, dd b, dd c, dd d] := by
    by_cases hv : (n1 % 2 == 1) = true
    · exact ⟨p2, q2, r2, s2, G2.1, G2.2.1, G2.2.2.1, G2.2.2.2, by rw [if_pos hv]⟩
    · exact ⟨p3, q3, r3, s3, G3.1, G3.2.1, G3.2.2.1, G3.2.2.2, by rw [if_neg hv]⟩
  obtain ⟨a, b, c, d, ga, gb, gc, gd, hsec⟩ := sec
  obtain ⟨ρ', e, t4, t5, t6, t7, t8, t9, t10, rfl⟩ := forO_inv (G := gN 4) (b := lw1 C) (I1 (.v (.frz ns)) (.v (.lst (il L))) (.v (.lst [dd p, dd q, dd r, dd s])) (.v (.lst [dd a, dd b, dd c, dd d]))) [dd p, dd q, dd r, dd s] (fun z hz ρ hρ => by
    obtain ⟨t4, t5, t6, t7, t8, t9, t10, rfl⟩ := hρ
    have hg : ∃ q : C4, z = dd q ∧ Gd q := by
      simp only [List.mem_cons, List.not_mem_nil, or_false] at hz
      rcases hz with rfl | rfl | rfl | rfl
      · exact ⟨_, rfl, g1⟩
      · exact ⟨_, rfl, g2⟩
      · exact ⟨_, rfl, g3⟩
      · exact ⟨_, rfl, g4⟩
    obtain ⟨y, rfl, g⟩ := hg
    obtain ⟨ρ2, e2, i2⟩ := st1 (C := C) (.v (.frz ns)) (.v (.lst (il L))) (.v (.lst [dd p, dd q, dd r, dd s])) (.v (.lst [dd a, dd b, dd c, dd d])) g ga gb gc gd rfl t5 t6 t7 t8 t9 t10
    exact ⟨_, ρ2, rfl, e2, i2⟩) [.v (.frz ns), .v (.lst (il L)), .v (.lst [dd p, dd q, dd r, dd s]), .v (.lst [dd a, dd b, dd c, dd d]), .un, .un, .un, .un, .un, .un, .un] ⟨.un, .un, .un, .un, .un, .un, .un, rfl⟩
  -- the bad one
  have bad : ∃ z : D, L2.atI [D.tup [.int 1, .int 1, .int 1, .int 0], D.tup [.int 1, .int 2], D.tup [], D.tup [.int 0, .int 0, .int 0, .int 0]] (n2 % 4) = some z ∧ D.settle z = some z ∧ F_is_circle [z] = .ok (.bl false) := by
    obtain ⟨x, hx, h | h | h | h⟩ := at5 (a := D.tup [.int 1, .int 1, .int 1, .int 0]) (b := D.tup [.int 1, .int 2]) (c := D.tup []) (d := D.tup [.int 0, .int 0, .int 0, .int 0]) (n := n2 % 4) b0 b1
    · exact ⟨_, by rw [hx, h.2], rfl, cir_sm (.t ⟨1, 1, 1, 0⟩) (by unfold C4.le; decide)⟩
    · exact ⟨_, by rw [hx, h.2], rfl, cir_len rfl⟩
    · exact ⟨_, by rw [hx, h.2], rfl, cir_len rfl⟩
    · exact ⟨_, by rw [hx, h.2], rfl, cir_sm (.t ⟨0, 0, 0, 0⟩) (by unfold C4.le; decide)⟩
  obtain ⟨z, z1, z2, z3⟩ := bad
  have z4 : F_check_circle C [z] = .err ⟨.ref C, none⟩ := ckc_no z2 z3
  have z5 : F_check_circle C [dd p] = .ok .non := chk2 (.t p) g1
  have r1 := ref2 (C := C) z2 rfl (ck2_no1 (e := dd p) z2 z4)
  have r2 := ref2 (C := C) rfl z2 (ck2_no2 rfl z2 z5 z4)
  have wr : (n0 % 7).toNat ≤ 16777216 := by omega
  have k1 : -4611686018427387904 ≤ n0 % 7 := by omega
  have k2 : n0 % 7 < 4611686018427387904 := by omega
  unfold C4.d at f f2 f3' hw hsec
  unfold dd at e r1 r2 hsec
  rw [lawB_eq]
  cases hv : (n1 % 2 == 1) with
  | true =>
    rw [hv, if_pos rfl] at hsec
    rw [← hsec] at e
    simp_arith [at_run, lawB, hL', f, i30, h7, k1, k2, rngI_length, wr, hw, f3', i31, h2, hv, f2, e, i39, h4, z1, z2, at4_0, r1, r2]
  | false =>
    rw [hv, if_neg (by decide)] at hsec
    rw [← hsec] at e
    simp_arith [at_run, lawB, hL', f, i30, h7, k1, k2, rngI_length, wr, hw, f3', i31, h2, hv, e, i39, h4, z1, z2, at4_0, r1, r2]
end DL

open PySem PySem.W PyProof.Rows in
set_option maxRecDepth 100000 in
set_option maxHeartbeats 0 in
theorem PySem.Challenge.cw_fourtouch_k01_doubles_and_relations_holds : PySem.Challenge.rw_fourtouch_k01_doubles_and_relations.Holds := by
  w_on; o_law; k_head; (case hw => w_witness2)
  k_fill
  refine DL.lawG (l := PySem.Challenge.rw_fourtouch_k01_doubles_and_relations) (k := 6) (x := "script") (n := 63) rfl (by decide) rfl ⟨rfl, by decide, by decide⟩ (fun w h Y => PySem.W.kIn_of Y) ?F
  case F =>
    intro w mg fa h KX G hmg
    refine' ⟨_, DL.law_true, DL.w_law (DL.txt_mk KX G ?z_len ?z_tuple ?z_abs ?z_int ?z_range ?z_max ?z_sum ?z_list ?z_isinstance ?z_ValueError ?z_bool ?a_is_circle ?l_is_circle ?c_is_circle ?k_is_circle ?a_check_circle ?l_check_circle ?c_check_circle ?k_check_circle ?a_check_two ?l_check_two ?c_check_two ?k_check_two ?a_double_of ?l_double_of ?c_double_of ?k_double_of ?a_double ?l_double ?c_double ?k_double ?a_are_outward ?l_are_outward ?c_are_outward ?k_are_outward ?a_are_touching ?l_are_touching ?c_are_touching ?k_are_touching ?a_touch ?l_touch ?c_touch ?k_touch ?a_opposite ?l_opposite ?c_opposite ?k_opposite ?a_relation ?l_relation ?c_relation ?k_relation ?a__law_row ?l__law_row ?c__law_row ?k__law_row ?a__law_numbers ?l__law_numbers ?c__law_numbers ?k__law_numbers ?a__law_other ?l__law_other ?c__law_other ?k__law_other ?a__law_fallen ?l__law_fallen ?c__law_fallen ?k__law_fallen ?a__law_given ?l__law_given ?c__law_given ?k__law_given ?a__law_moved ?l__law_moved ?c__law_moved ?k__law_moved ?a__law_laid ?l__law_laid ?c__law_laid ?k__law_laid ?a__law_four ?l__law_four ?c__law_four ?k__law_four ?a__law_double ?l__law_double ?c__law_double ?k__law_double ?a__law_opposite ?l__law_opposite ?c__law_opposite ?k__law_opposite ?a__law_relation ?l__law_relation ?c__law_relation ?k__law_relation ?a__law_refused ?l__law_refused ?c__law_refused ?k__law_refused ?a_law ?l_law ?c_law ?k_law ?g_InvalidCircle ?x_InvalidCircle ?q_InvalidCircle ?s_InvalidCircle ?t_InvalidCircle ?su_InvalidCircle_InvalidCircle ?su_InvalidCircle_ValueError ?hd_InvalidCircle ?ty_InvalidCircle ?sb_InvalidCircle ?xc_InvalidCircle_hg ?xc_InvalidCircle_hk ?xc_InvalidCircle_hs ?xc_InvalidCircle_hd ?xc_InvalidCircle_ha ?xc_InvalidCircle_hn ?xc_InvalidCircle_ht ?xc_InvalidCircle_hm) hmg⟩
    (case z_len => k_is)
    (case z_tuple => k_is)
    (case z_abs => k_is)
    (case z_int => k_is)
    (case z_range => k_is)
    (case z_max => k_is)
    (case z_sum => k_is)
    (case z_list => k_is)
    (case z_isinstance => k_is)
    (case z_ValueError => k_is)
    (case z_bool => k_is)
    (case a_is_circle => k_is); (case l_is_circle => k_is); (case c_is_circle => k_is); (case k_is_circle => k_is)
    (case a_check_circle => k_is); (case l_check_circle => k_is); (case c_check_circle => k_is); (case k_check_circle => k_is)
    (case a_check_two => k_is); (case l_check_two => k_is); (case c_check_two => k_is); (case k_check_two => k_is)
    (case a_double_of => k_is); (case l_double_of => k_is); (case c_double_of => k_is); (case k_double_of => k_is)
    (case a_double => k_is); (case l_double => k_is); (case c_double => k_is); (case k_double => k_is)
    (case a_are_outward => k_is); (case l_are_outward => k_is); (case c_are_outward => k_is); (case k_are_outward => k_is)
    (case a_are_touching => k_is); (case l_are_touching => k_is); (case c_are_touching => k_is); (case k_are_touching => k_is)
    (case a_touch => k_is); (case l_touch => k_is); (case c_touch => k_is); (case k_touch => k_is)
    (case a_opposite => k_is); (case l_opposite => k_is); (case c_opposite => k_is); (case k_opposite => k_is)
    (case a_relation => k_is); (case l_relation => k_is); (case c_relation => k_is); (case k_relation => k_is)
    (case a__law_row => k_is); (case l__law_row => k_is); (case c__law_row => k_is); (case k__law_row => k_is)
    (case a__law_numbers => k_is); (case l__law_numbers => k_is); (case c__law_numbers => k_is); (case k__law_numbers => k_is)
    (case a__law_other => k_is); (case l__law_other => k_is); (case c__law_other => k_is); (case k__law_other => k_is)
    (case a__law_fallen => k_is); (case l__law_fallen => k_is); (case c__law_fallen => k_is); (case k__law_fallen => k_is)
    (case a__law_given => k_is); (case l__law_given => k_is); (case c__law_given => k_is); (case k__law_given => k_is)
    (case a__law_moved => k_is); (case l__law_moved => k_is); (case c__law_moved => k_is); (case k__law_moved => k_is)
    (case a__law_laid => k_is); (case l__law_laid => k_is); (case c__law_laid => k_is); (case k__law_laid => k_is)
    (case a__law_four => k_is); (case l__law_four => k_is); (case c__law_four => k_is); (case k__law_four => k_is)
    (case a__law_double => k_is); (case l__law_double => k_is); (case c__law_double => k_is); (case k__law_double => k_is)
    (case a__law_opposite => k_is); (case l__law_opposite => k_is); (case c__law_opposite => k_is); (case k__law_opposite => k_is)
    (case a__law_relation => k_is); (case l__law_relation => k_is); (case c__law_relation => k_is); (case k__law_relation => k_is)
    (case a__law_refused => k_is); (case l__law_refused => k_is); (case c__law_refused => k_is); (case k__law_refused => k_is)
    (case a_law => k_is); (case l_law => k_is); (case c_law => k_is); (case k_law => k_is)
    (case g_InvalidCircle => k_is)
    (case su_InvalidCircle_InvalidCircle => k_is)
    (case su_InvalidCircle_ValueError => k_is)
    (case hd_InvalidCircle => k_is); (case ty_InvalidCircle => k_is)
    (case sb_InvalidCircle => k_is)
    (case xc_InvalidCircle_hg => k_is); (case xc_InvalidCircle_hk => k_is); (case xc_InvalidCircle_hs => k_is); (case xc_InvalidCircle_hd => k_is); (case xc_InvalidCircle_ha => k_is); (case xc_InvalidCircle_hn => k_is); (case xc_InvalidCircle_ht => k_is); (case xc_InvalidCircle_hm => k_is)
    (case x_InvalidCircle => k_exc); (case q_InvalidCircle => k_is); (case s_InvalidCircle => k_is); (case t_InvalidCircle => k_is)
