import PyProof.Rows.All
import Wide.All
import OpenK.AllK
import Wide.FinOn
import HandS.ForMost
import HandS.ForExc
import HandS.TryOnly
import HandS.TryMany
import HandS.IsInst
import HandS.ExcIs
import HandS.ExcInit
import HandS.ExcField
import HandS.Flow
import HandS.Style
import HandS.TupAny
import HandS.Wide
import HandS.WideBits
import HandS.Walk
import HandS.RevRange
import HandS.Rev
import HandS.SortInts
import HandS.Text
import HandS.StrMore
import HandS.Ends
import HandS.TupLe
import HandS.Zip0
import HandS.Iter
import HandS.Zip
import HandS.Star
import KE.KTupSum
import KE.DataEq
import KE.DataFind
import KE.DataMinMax
import KE.SortData
import KE.SortLaws
import KE.KIndexOf
import PyProof.EnumMake
import PyProof.Draws
import KE.GoesMore
import PyProof.ListNew
import PyProof.CollectWalk
import PySem.Challenge.RW_fourtouch_k16_matrices_of_words
set_option Elab.async false
set_option linter.all false
set_option maxRecDepth 100000
set_option maxHeartbeats 0
/-! A layer of plain data over the hand layer: what a def makes of data (D), as a function; a derivation a def. -/
namespace DL
open PySem L2

/-- plain data. new: a list just made; bor: a list that is still the def's own; both stand outermost alone -/
inductive D where
  | non | bl (b : Bool) | int (i : Int) | str (s : Str)
  | lst (ds : List D) | tup (ds : List D) | frz (ns : List Int)
  | obj (C : Addr) (fs : List (Str × D))
  | new (ds : List D) | bor (ds : List D)

mutual
inductive Rp (K : PySem.W.Frag) (H : Hp) : V → D → Prop
  | non : Rp K H .non .non
  | bl (b : Bool) : Rp K H (.bl b) (.bl b)
  | int (i : Int) : Rp K H (.int i) (.int i)
  | str (s : Str) : Rp K H (.str s) (.str s)
  | lst {a : Addr} {xs : List V} {ds : List D} : H a = some (.lst xs) → RpAll K H xs ds → Rp K H (.ref a) (.lst ds)
  | tup {a : Addr} {xs : List V} {ds : List D} : SqT K H a xs → RpAll K H xs ds → Rp K H (.ref a) (.tup ds)
  | frz {a : Addr} {ns : List Int} : SqL K H a (ns.map V.int) → Rp K H (.ref a) (.frz ns)
  | obj {a C dx : Addr} {vs : List (Str × V)} {fs : List (Str × D)} : H a = some (.ins C dx vs) → RpF K H vs fs → Rp K H (.ref a) (.obj C fs)
inductive RpAll (K : PySem.W.Frag) (H : Hp) : List V → List D → Prop
  | nil : RpAll K H [] []
  | cons {v : V} {vs : List V} {d : D} {ds : List D} : Rp K H v d → RpAll K H vs ds → RpAll K H (v :: vs) (d :: ds)
inductive RpF (K : PySem.W.Frag) (H : Hp) : List (Str × V) → List (Str × D) → Prop
  | nil : RpF K H [] []
  | cons {f : Str} {v : V} {vs : List (Str × V)} {d : D} {ds : List (Str × D)} : Rp K H v d → RpF K H vs ds → RpF K H ((f, v) :: vs) ((f, d) :: ds)
end

theorem Same.seqT {K : PySem.W.Frag} {H H' : Hp} {a : Addr} {xs : List V} (e : Same H H') (h : SqT K H a xs) : SqT K H' a xs := by
  rcases h with h | h
  · rcases h with h | ⟨o, h⟩
    · exact .inl (.inl (e _ _ h))
    · exact .inl (.inr ⟨o, e _ _ h⟩)
  · exact .inr h
section
variable {K : PySem.W.Frag} {H H' : Hp}
mutual
theorem Rp.mono (m : Same H H') : ∀ {v : V} {d : D}, Rp K H v d → Rp K H' v d
  | _, _, .non => .non
  | _, _, .bl b => .bl b
  | _, _, .int i => .int i
  | _, _, .str s => .str s
  | _, _, .lst h r => .lst (m _ _ h) (RpAll.mono m r)
  | _, _, .tup h r => .tup (Same.seqT m h) (RpAll.mono m r)
  | _, _, .frz h => .frz (m.seq h)
  | _, _, .obj h r => .obj (m _ _ h) (RpF.mono m r)
theorem RpAll.mono (m : Same H H') : ∀ {vs : List V} {ds : List D}, RpAll K H vs ds → RpAll K H' vs ds
  | _, _, .nil => .nil
  | _, _, .cons h r => .cons (Rp.mono m h) (RpAll.mono m r)
theorem RpF.mono (m : Same H H') : ∀ {vs : List (Str × V)} {ds : List (Str × D)}, RpF K H vs ds → RpF K H' vs ds
  | _, _, .nil => .nil
  | _, _, .cons h r => .cons (Rp.mono m h) (RpF.mono m r)
end
theorem RpAll.length : ∀ {vs : List V} {ds : List D}, RpAll K H vs ds → vs.length = ds.length
  | _, _, .nil => rfl
  | _, _, .cons _ r => by rw [List.length_cons, List.length_cons, RpAll.length r]
theorem RpAll.get : ∀ {vs : List V} {ds : List D} {i : Nat} {d : D}, RpAll K H vs ds → ds[i]? = some d → ∃ v, vs[i]? = some v ∧ Rp K H v d
  | _, _, _, _, .nil, e => by simp at e
  | _, _, 0, _, .cons h _, e => by simp at e; subst e; exact ⟨_, rfl, h⟩
  | _, _, i + 1, _, .cons _ r, e => by
    obtain ⟨v, h1, h2⟩ := RpAll.get (i := i) r (by simpa using e)
    exact ⟨v, by simpa using h1, h2⟩
theorem RpAll.get' : ∀ {vs : List V} {ds : List D} {i : Nat} {v : V}, RpAll K H vs ds → vs[i]? = some v → ∃ d, ds[i]? = some d ∧ Rp K H v d
  | _, _, _, _, .nil, e => by simp at e
  | _, _, 0, _, .cons h _, e => by simp at e; subst e; exact ⟨_, rfl, h⟩
  | _, _, i + 1, _, .cons _ r, e => by
    obtain ⟨d, h1, h2⟩ := RpAll.get' (i := i) r (by simpa using e)
    exact ⟨d, by simpa using h1, h2⟩
theorem RpAll.append : ∀ {vs ws : List V} {ds es : List D}, RpAll K H vs ds → RpAll K H ws es → RpAll K H (vs ++ ws) (ds ++ es)
  | _, _, _, _, .nil, s => s
  | _, _, _, _, .cons h r, s => .cons h (RpAll.append r s)
theorem RpAll.take : ∀ {vs : List V} {ds : List D} (n : Nat), RpAll K H vs ds → RpAll K H (vs.take n) (ds.take n)
  | _, _, 0, _ => .nil
  | _, _, _ + 1, .nil => .nil
  | _, _, n + 1, .cons h r => .cons h (RpAll.take n r)
theorem RpAll.drop : ∀ {vs : List V} {ds : List D} (n : Nat), RpAll K H vs ds → RpAll K H (vs.drop n) (ds.drop n)
  | _, _, 0, r => r
  | _, _, _ + 1, .nil => .nil
  | _, _, n + 1, .cons _ r => RpAll.drop n r
theorem RpAll.reverse : ∀ {vs : List V} {ds : List D}, RpAll K H vs ds → RpAll K H vs.reverse ds.reverse
  | _, _, .nil => .nil
  | _, _, .cons h r => by
    rw [List.reverse_cons, List.reverse_cons]
    exact RpAll.append (RpAll.reverse r) (.cons h .nil)
theorem RpAll.set {v : V} {d : D} (h : Rp K H v d) : ∀ {vs : List V} {ds : List D} (i : Nat), RpAll K H vs ds → RpAll K H (vs.set i v) (ds.set i d)
  | _, _, _, .nil => .nil
  | _, _, 0, .cons _ r => .cons h r
  | _, _, i + 1, .cons q r => .cons q (RpAll.set h i r)
theorem RpAll.dropLast : ∀ {vs : List V} {ds : List D}, RpAll K H vs ds → RpAll K H vs.dropLast ds.dropLast := fun {vs ds} r => by
  rw [List.dropLast_eq_take, List.dropLast_eq_take, r.length]
  exact r.take _
theorem RpAll.eraseIdx : ∀ {vs : List V} {ds : List D} (i : Nat), RpAll K H vs ds → RpAll K H (vs.eraseIdx i) (ds.eraseIdx i)
  | _, _, _, .nil => by simp only [List.eraseIdx_nil]; exact .nil
  | _, _, 0, .cons _ r => r
  | _, _, i + 1, .cons q r => .cons q (RpAll.eraseIdx i r)
/-- a list of ints -/
theorem RpAll.ints : ∀ {vs : List V} {ns : List Int}, RpAll K H vs (ns.map D.int) → vs = ns.map V.int
  | _, [], .nil => rfl
  | _, n :: r, .cons h q => by
    cases h
    rw [RpAll.ints q]; rfl
theorem RpAll.of_ints : ∀ (ns : List Int), RpAll K H (ns.map V.int) (ns.map D.int)
  | [] => .nil
  | n :: r => .cons (.int n) (RpAll.of_ints r)
theorem RpAll.bls : ∀ {vs : List V} {ns : List Bool}, RpAll K H vs (ns.map D.bl) → vs = ns.map V.bl
  | _, [], .nil => rfl
  | _, n :: r, .cons h q => by
    cases h
    rw [RpAll.bls q]; rfl
theorem RpAll.strs : ∀ {vs : List V} {ns : List Str}, RpAll K H vs (ns.map D.str) → vs = ns.map V.str
  | _, [], .nil => rfl
  | _, n :: r, .cons h q => by
    cases h
    rw [RpAll.strs q]; rfl
theorem RpF.lookup {f : Str} {d : D} : ∀ {vs : List (Str × V)} {fs : List (Str × D)}, RpF K H vs fs → fs.lookup f = some d → ∃ v, vs.lookup f = some v ∧ Rp K H v d
  | _, _, .nil, e => by simp at e
  | _, _, .cons (f := g) h r, e => by
    rw [List.lookup_cons] at e ⊢
    cases q : f == g with
    | true =>
      rw [q] at e
      simp only [Option.some.injEq] at e
      subst e
      exact ⟨_, rfl, h⟩
    | false =>
      rw [q] at e
      exact RpF.lookup r e
theorem RpF.lookup_none {f : Str} : ∀ {vs : List (Str × V)} {fs : List (Str × D)}, RpF K H vs fs → fs.lookup f = none → vs.lookup f = none
  | _, _, .nil, _ => rfl
  | _, _, .cons (f := g) h r, e => by
    rw [List.lookup_cons] at e ⊢
    cases q : f == g with
    | true => rw [q] at e; cases e
    | false => rw [q] at e; exact RpF.lookup_none r e
end

/-- what may be read as a list -/
def D.items : D → Option (List D)
  | .lst ds | .new ds | .bor ds => some ds
  | _ => none
/-- a value that may be read -/
def Rr (K : PySem.W.Frag) (S H : Hp) (v : V) : D → Prop
  | .lst ds | .new ds | .bor ds => ∃ a xs, v = .ref a ∧ H a = some (.lst xs) ∧ RpAll K S xs ds
  | d => Rp K S v d
/-- what an expression leaves: H the heap ahead of it -/
def Rv (K : PySem.W.Frag) (H0 S H : Hp) (v : V) : D → Prop
  | .new ds => ∃ a xs, v = .ref a ∧ H0 a = none ∧ S a = none ∧ H a = some (.lst xs) ∧ RpAll K S xs ds
  | .bor ds => ∃ a xs, v = .ref a ∧ S a = none ∧ H a = some (.lst xs) ∧ RpAll K S xs ds
  | d => Rp K S v d
/-- the stable heap S within H grows -/
structure Ext (S H S' H' : Hp) : Prop where
  ss : Same S S'
  hh : Same H H'
  sh : Same S' H'
  fr : ∀ l, S l = none → H l ≠ none → S' l = none
section
variable {K : PySem.W.Frag} {S H S' H' S'' H'' H0 : Hp} {v : V} {d : D}
theorem Ext.refl (h : Same S H) : Ext S H S H := ⟨Same.refl _, Same.refl _, h, fun _ e _ => e⟩
theorem Ext.trans (a : Ext S H S' H') (b : Ext S' H' S'' H'') : Ext S H S'' H'' :=
  ⟨a.ss.trans b.ss, a.hh.trans b.hh, b.sh, fun l e n => b.fr l (a.fr l e n) fun z => n (a.hh.free z)⟩
/-- a new object, stable at once -/
theorem Ext.mk1 (h : Same S H) {p : Addr} (n : H p = none) (o : HO) : Ext S H (upd S p o) (upd H p o) := by
  have ns : S p = none := h.free n
  refine ⟨fun b u e => ?_, fun b u e => ?_, fun b u e => ?_, fun l e q => ?_⟩
  · rw [upd_ne (ne_of_none e ns)]; exact e
  · rw [upd_ne (ne_of_none e n)]; exact e
  · by_cases hb : b = p
    · subst hb; rw [upd_same] at e ⊢; exact e
    · rw [upd_ne hb] at e ⊢; exact h _ _ e
  · have : l ≠ p := fun z => q (by rw [z]; exact n)
    rw [upd_ne this]; exact e
/-- a new object that stays outside of the stable heap -/
theorem Ext.mk0 (h : Same S H) {p : Addr} (n : H p = none) (o : HO) : Ext S H S (upd H p o) := by
  refine ⟨Same.refl _, fun b u e => ?_, fun b u e => ?_, fun _ e _ => e⟩
  · rw [upd_ne (ne_of_none e n)]; exact e
  · rw [upd_ne (ne_of_none (h _ _ e) n)]; exact h _ _ e
/-- an object outside of the stable heap is taken in, that is new since H -/
theorem Ext.settle (e : Ext S H S' H') {a : Addr} {o : HO} (n : H a = none) (s : S' a = none) (h : H' a = some o) : Ext S H (upd S' a o) H' := by
  refine ⟨fun b u q => ?_, e.hh, fun b u q => ?_, fun l q z => ?_⟩
  · rw [upd_ne (ne_of_none (e.ss _ _ q) s)]; exact e.ss _ _ q
  · by_cases hb : b = a
    · subst hb; rw [upd_same] at q; rw [← q]; exact h
    · rw [upd_ne hb] at q; exact e.sh _ _ q
  · have : l ≠ a := fun y => z (by rw [y]; exact n)
    rw [upd_ne this]; exact e.fr l q z
theorem Rp.rr (h : Same S H) (r : Rp K S v d) : Rr K S H v d := by
  cases d with
  | lst ds => cases r with | lst q r => exact ⟨_, _, rfl, h _ _ q, r⟩
  | new ds => cases r
  | bor ds => cases r
  | _ => exact r
theorem Rv.rr (h : Same S H) (r : Rv K H0 S H v d) : Rr K S H v d := by
  cases d with
  | lst ds => exact Rp.rr h r
  | new ds => obtain ⟨a, xs, h1, h2, h3, h4, h5⟩ := r; exact ⟨a, xs, h1, h4, h5⟩
  | bor ds => obtain ⟨a, xs, h1, h2, h4, h5⟩ := r; exact ⟨a, xs, h1, h4, h5⟩
  | _ => exact r
theorem Rr.mono (e1 : Same S S') (e2 : Same H H') (r : Rr K S H v d) : Rr K S' H' v d := by
  cases d with
  | lst ds => obtain ⟨a, xs, h1, h2, h3⟩ := r; exact ⟨a, xs, h1, e2 _ _ h2, h3.mono e1⟩
  | new ds => obtain ⟨a, xs, h1, h2, h3⟩ := r; exact ⟨a, xs, h1, e2 _ _ h2, h3.mono e1⟩
  | bor ds => obtain ⟨a, xs, h1, h2, h3⟩ := r; exact ⟨a, xs, h1, e2 _ _ h2, h3.mono e1⟩
  | _ => exact Rp.mono e1 r
theorem Rr.items {ds : List D} (r : Rr K S H v d) (e : d.items = some ds) : ∃ a xs, v = .ref a ∧ H a = some (.lst xs) ∧ RpAll K S xs ds := by
  cases d with
  | lst es => cases e; exact r
  | new es => cases e; exact r
  | bor es => cases e; exact r
  | _ => cases e
end

theorem rp_new {K : PySem.W.Frag} {S H0 H : Hp} {v : V} {d : D} (r : Rp K S v d) : Rv K H0 S H v d := by
  cases d with
  | new ds => cases r
  | bor ds => cases r
  | _ => exact r
/-! ### slots -/
inductive Slot where
  | un
  | v (d : D)
  | own (ds : List D)
  | exc (a : Addr)
  /-- an object in the making: where it is, its class, its fields -/
  | ob (l C : Addr) (fs : List (Str × D))
abbrev Rho := List Slot
def SlotOk (K : PySem.W.Frag) (S H0 H : Hp) (x : Option V) : Slot → Prop
  | .un => True
  | .v d => ∃ v, x = some v ∧ Rp K S v d
  | .own ds => ∃ l xs, x = some (.ref l) ∧ H0 l = none ∧ S l = none ∧ H l = some (.lst xs) ∧ RpAll K S xs ds
  | .exc a => x = some (.ref a)
  | .ob l C fs => ∃ dx vs, x = some (.ref l) ∧ H0 l = none ∧ S l = none ∧ H l = some (.ins C dx vs) ∧ RpF K S vs fs
/-- the slots σ and the heap H bear the data ρ; S0, H0: at the def's entry; S: what stays -/
structure Rel (K : PySem.W.Frag) (S0 H0 S H : Hp) (σ : St) (ρ : Rho) : Prop where
  ex : Ext S0 H0 S H
  len : σ.length = ρ.length
  at_ : ∀ (i : Nat) (s : Slot), ρ[i]? = some s → ∃ x, σ[i]? = some x ∧ SlotOk K S H0 H x s
  dis : ∀ (i j : Nat) (l : Addr) (ds es : List D), i ≠ j → ρ[i]? = some (.own ds) → ρ[j]? = some (.own es) → σ[i]? = some (some (.ref l)) → σ[j]? = some (some (.ref l)) → False
section
variable {K : PySem.W.Frag} {S0 H0 S H S' H' : Hp} {σ : St} {ρ : Rho}
theorem Rel.sh (R : Rel K S0 H0 S H σ ρ) : Same S H := R.ex.sh
theorem SlotOk.ext {x : Option V} {s : Slot} (e : Ext S H S' H') (h : SlotOk K S H0 H x s) : SlotOk K S' H0 H' x s := by
  cases s with
  | un => trivial
  | exc a => exact h
  | ob l C fs =>
    obtain ⟨dx, vs, h1, h2, h3, h4, h5⟩ := h
    exact ⟨dx, vs, h1, h2, e.fr l h3 (by rw [h4]; exact fun z => by cases z), e.hh _ _ h4, h5.mono e.ss⟩
  | v d => obtain ⟨v, h1, h2⟩ := h; exact ⟨v, h1, h2.mono e.ss⟩
  | own ds =>
    obtain ⟨l, xs, h1, h2, h3, h4, h5⟩ := h
    exact ⟨l, xs, h1, h2, e.fr l h3 (by rw [h4]; exact fun z => by cases z), e.hh _ _ h4, h5.mono e.ss⟩
theorem Rel.ext (R : Rel K S0 H0 S H σ ρ) (e : Ext S H S' H') : Rel K S0 H0 S' H' σ ρ :=
  ⟨R.ex.trans e, R.len, fun i s h => by
    obtain ⟨x, h1, h2⟩ := R.at_ i s h
    exact ⟨x, h1, h2.ext e⟩, R.dis⟩
/-- a slot is set to a stable value (or one that is forgotten) -/
theorem Rel.set (R : Rel K S0 H0 S H σ ρ) {i : Nat} {v : V} {s : Slot} (h : SlotOk K S H0 H (some v) s) (no : ∀ ds, s ≠ .own ds) : Rel K S0 H0 S H (σ.set i (some v)) (ρ.set i s) := by
  refine ⟨R.ex, by rw [List.length_set, List.length_set]; exact R.len, fun j s' e => ?_, fun j k l ds es n e1 e2 e3 e4 => ?_⟩
  · by_cases hj : i = j
    · subst hj
      have hl : i < ρ.length := by
        have := (List.getElem?_eq_some_iff.mp e).1
        rwa [List.length_set] at this
      rw [List.getElem?_set_self hl] at e
      cases e
      exact ⟨_, List.getElem?_set_self (by rw [R.len]; exact hl), h⟩
    · rw [List.getElem?_set_ne hj] at e ⊢
      exact R.at_ j s' e
  · have f : ∀ {m : Nat} {fs : List D}, (ρ.set i s)[m]? = some (.own fs) → i ≠ m := fun {m fs} e z => by
      subst z
      have hl : i < ρ.length := by
        have := (List.getElem?_eq_some_iff.mp e).1
        rwa [List.length_set] at this
      rw [List.getElem?_set_self hl] at e
      cases e
      exact no _ rfl
    have hj := f e1
    have hk := f e2
    rw [List.getElem?_set_ne hj] at e1 e3
    rw [List.getElem?_set_ne hk] at e2 e4
    exact R.dis j k l ds es n e1 e2 e3 e4
/-- a slot is set to a new list of the def's own -/
theorem Rel.setOwn (R : Rel K S0 H0 S H σ ρ) {i : Nat} {a : Addr} {xs : List V} {ds : List D} (h0 : H0 a = none) (hs : S a = none) (hh : H a = some (.lst xs)) (r : RpAll K S xs ds)
    (nw : ∀ (j : Nat) (es : List D), ρ[j]? = some (.own es) → σ[j]? = some (some (.ref a)) → i = j) : Rel K S0 H0 S H (σ.set i (some (.ref a))) (ρ.set i (.own ds)) := by
  refine ⟨R.ex, by rw [List.length_set, List.length_set]; exact R.len, fun j s' e => ?_, fun j k l fs es n e1 e2 e3 e4 => ?_⟩
  · by_cases hj : i = j
    · subst hj
      have hl : i < ρ.length := by
        have := (List.getElem?_eq_some_iff.mp e).1
        rwa [List.length_set] at this
      rw [List.getElem?_set_self hl] at e
      cases e
      exact ⟨_, List.getElem?_set_self (by rw [R.len]; exact hl), a, xs, rfl, h0, hs, hh, r⟩
    · rw [List.getElem?_set_ne hj] at e ⊢
      exact R.at_ j s' e
  · by_cases hj : i = j
    · have hk : i ≠ k := fun z => n (hj ▸ z)
      subst hj
      have hl : i < σ.length := by
        have := (List.getElem?_eq_some_iff.mp e3).1
        rwa [List.length_set] at this
      rw [List.getElem?_set_self hl] at e3
      cases e3
      rw [List.getElem?_set_ne hk] at e2 e4
      exact hk (nw k es e2 e4)
    · by_cases hk : i = k
      · subst hk
        have hl : i < σ.length := by
          have := (List.getElem?_eq_some_iff.mp e4).1
          rwa [List.length_set] at this
        rw [List.getElem?_set_self hl] at e4
        cases e4
        rw [List.getElem?_set_ne hj] at e1 e3
        exact hj (nw j fs e1 e3)
      · rw [List.getElem?_set_ne hj] at e1 e3
        rw [List.getElem?_set_ne hk] at e2 e4
        exact R.dis j k l fs es n e1 e2 e3 e4
/-- the own list of a slot is changed -/
theorem Rel.upd (R : Rel K S0 H0 S H σ ρ) {i : Nat} {l : Addr} {xs : List V} {ds ds' : List D} (hi : ρ[i]? = some (.own ds)) (hσ : σ[i]? = some (some (.ref l))) (r : RpAll K S xs ds') :
    Rel K S0 H0 S (upd H l (.lst xs)) σ (ρ.set i (.own ds')) := by
  obtain ⟨x, h1, l', ys, h2, h3, h4, h5, h6⟩ := R.at_ i _ hi
  rw [hσ] at h1
  cases h1
  cases h2
  have hl : i < ρ.length := (List.getElem?_eq_some_iff.mp hi).1
  refine ⟨⟨R.ex.ss, fun b u e => ?_, fun b u e => ?_, R.ex.fr⟩, by rw [List.length_set]; exact R.len, fun j s' e => ?_, fun j k m fs es n e1 e2 e3 e4 => ?_⟩
  · rw [upd_ne (ne_of_none e h3)]; exact R.ex.hh _ _ e
  · rw [upd_ne (ne_of_none e h4)]; exact R.ex.sh _ _ e
  · by_cases hj : i = j
    · subst hj
      rw [List.getElem?_set_self hl] at e
      cases e
      exact ⟨_, hσ, l, xs, rfl, h3, h4, upd_same, r⟩
    · rw [List.getElem?_set_ne hj] at e
      obtain ⟨x, g1, g2⟩ := R.at_ j s' e
      refine ⟨x, g1, ?_⟩
      cases s' with
      | un => trivial
      | exc a => exact g2
      | ob m C fs =>
        obtain ⟨dx, zs, k1, k2, k3, k4, k5⟩ := g2
        have : m ≠ l := fun z => by rw [z, h5] at k4; cases k4
        exact ⟨dx, zs, k1, k2, k3, by rw [upd_ne this]; exact k4, k5⟩
      | v d => exact g2
      | own es =>
        obtain ⟨m, zs, k1, k2, k3, k4, k5⟩ := g2
        refine ⟨m, zs, k1, k2, k3, ?_, k5⟩
        have : m ≠ l := fun z => R.dis i j l ds es hj hi e hσ (by rw [g1, k1, z])
        rw [upd_ne this]; exact k4
  · have f : ∀ {m : Nat} {fs : List D}, (ρ.set i (.own ds'))[m]? = some (.own fs) → ∃ gs, ρ[m]? = some (.own gs) := fun {m fs} e => by
      by_cases hm : i = m
      · subst hm; exact ⟨ds, hi⟩
      · rw [List.getElem?_set_ne hm] at e; exact ⟨_, e⟩
    obtain ⟨gs, q1⟩ := f e1
    obtain ⟨gs', q2⟩ := f e2
    exact R.dis j k m gs gs' n q1 q2 e3 e4
/-- the own list of a slot is kept as it is from now on -/
theorem Rel.freeze (R : Rel K S0 H0 S H σ ρ) {i : Nat} {ds : List D} (hi : ρ[i]? = some (.own ds)) : ∃ S', Rel K S0 H0 S' H σ (ρ.set i (.v (.lst ds))) ∧ Same S S' := by
  obtain ⟨x, h1, l, xs, h2, h3, h4, h5, h6⟩ := R.at_ i _ hi
  subst h2
  have hl : i < ρ.length := (List.getElem?_eq_some_iff.mp hi).1
  have ss : Same S (L2.upd S l (.lst xs)) := fun b u e => by rw [upd_ne (ne_of_none e h4)]; exact e
  refine ⟨L2.upd S l (.lst xs), ⟨⟨R.ex.ss.trans ss, R.ex.hh, fun b u e => ?_, fun m e n => ?_⟩, by rw [List.length_set]; exact R.len, fun j s' e => ?_, fun j k m fs es n e1 e2 e3 e4 => ?_⟩, ss⟩
  · by_cases hb : b = l
    · subst hb; rw [upd_same] at e; rw [← e]; exact h5
    · rw [upd_ne hb] at e; exact R.ex.sh _ _ e
  · have : m ≠ l := fun z => n (by rw [z]; exact h3)
    rw [upd_ne this]; exact R.ex.fr m e n
  · by_cases hj : i = j
    · subst hj
      rw [List.getElem?_set_self hl] at e
      cases e
      exact ⟨_, h1, _, rfl, .lst upd_same (h6.mono ss)⟩
    · rw [List.getElem?_set_ne hj] at e
      obtain ⟨x, g1, g2⟩ := R.at_ j s' e
      refine ⟨x, g1, ?_⟩
      cases s' with
      | un => trivial
      | exc a => exact g2
      | ob m C fs =>
        obtain ⟨dx, zs, k1, k2, k3, k4, k5⟩ := g2
        have : m ≠ l := fun z => by rw [z, h5] at k4; cases k4
        exact ⟨dx, zs, k1, k2, by rw [upd_ne this]; exact k3, k4, k5.mono ss⟩
      | v d => obtain ⟨v, k1, k2⟩ := g2; exact ⟨v, k1, k2.mono ss⟩
      | own es =>
        obtain ⟨m, zs, k1, k2, k3, k4, k5⟩ := g2
        have : m ≠ l := fun z => R.dis i j l ds es hj hi e h1 (by rw [g1, k1, z])
        exact ⟨m, zs, k1, k2, by rw [upd_ne this]; exact k3, k4, k5.mono ss⟩
  · have f : ∀ {m : Nat} {fs : List D}, (ρ.set i (.v (.lst ds)))[m]? = some (.own fs) → ρ[m]? = some (.own fs) := fun {m fs} e => by
      by_cases hm : i = m
      · subst hm; rw [List.getElem?_set_self hl] at e; cases e
      · rw [List.getElem?_set_ne hm] at e; exact e
    exact R.dis j k m fs es n (f e1) (f e2) e3 e4
theorem Rel.weak (R : Rel K S0 H0 S H σ ρ) {ρ' : Rho} (hl : ρ'.length = ρ.length) (w : ∀ (i : Nat) (s : Slot), ρ'[i]? = some s → s = .un ∨ ρ[i]? = some s) : Rel K S0 H0 S H σ ρ' := by
  refine ⟨R.ex, by rw [hl]; exact R.len, fun i s e => ?_, fun i j l ds es n e1 e2 e3 e4 => ?_⟩
  · rcases w i s e with rfl | q
    · have hi : i < σ.length := by
        have := (List.getElem?_eq_some_iff.mp e).1
        rw [R.len, ← hl]; exact this
      exact ⟨σ[i], List.getElem?_eq_getElem hi, trivial⟩
    · exact R.at_ i s q
  · have f : ∀ {m : Nat} {fs : List D}, ρ'[m]? = some (.own fs) → ρ[m]? = some (.own fs) := fun {m fs} e => by
      rcases w m _ e with q | q
      · cases q
      · exact q
    exact R.dis i j l ds es n (f e1) (f e2) e3 e4
end
end DL

namespace DL
open PySem L2

/-- an error: its class, what its own dict holds (where it has one) -/
structure Ex where
  cls : Value
  fs : Option (List (Str × V))
inductive Res (α : Type) where
  | ok (a : α)
  | err (x : Ex)
  | st
def Res.bind {α β : Type} (r : Res α) (f : α → Res β) : Res β := match r with
  | .ok a => f a
  | .err x => .err x
  | .st => .st
def ofO {α : Type} : Option α → Res α
  | some a => .ok a
  | none => .st
@[simp] theorem bind_ok {α β : Type} (a : α) (f : α → Res β) : (Res.ok a).bind f = f a := rfl
@[simp] theorem bind_err {α β : Type} (x : Ex) (f : α → Res β) : (Res.err x).bind f = .err x := rfl
@[simp] theorem bind_st {α β : Type} (f : α → Res β) : (Res.st).bind f = .st := rfl
@[simp] theorem ofO_some {α : Type} (a : α) : ofO (some a) = .ok a := rfl
@[simp] theorem ofO_none {α : Type} : ofO (none : Option α) = .st := rfl
abbrev Ev := Rho → Res D
def XAt (x : Ex) (dd : Option Addr) (H : Hp) : Prop := match x.fs with
  | none => dd = none
  | some fs => ∃ a, dd = some a ∧ H a = some (.xd fs)
/-- what an error that leaves must meet -/
def PostX (W : WX) (S H : Hp) (σ : St) (x : Ex) : Prop := ∀ dd S' H', Ext S H S' H' → XAt x dd H' → W x.cls dd σ H'
def PostD (K : PySem.W.Frag) (W : WX) (S H : Hp) (σ : St) (r : Res D) (Q : VK) : Prop := match r with
  | .ok d => ∀ v S' H', Ext S H S' H' → Rv K H S' H' v d → Q v H'
  | .err x => PostX W S H σ x
  | .st => False
def PostO (K : PySem.W.Frag) (S H : Hp) (r : Option D) (Q : VK) : Prop := match r with
  | some d => ∀ v S' H', Ext S H S' H' → Rv K H S' H' v d → Q v H'
  | none => False
def PostB (W : WX) (S H : Hp) (σ : St) (r : Res Bool) (Q : Bool → Hp → Prop) : Prop := match r with
  | .ok b => ∀ S' H', Ext S H S' H' → Q b H'
  | .err x => PostX W S H σ x
  | .st => False
def PostA (K : PySem.W.Frag) (W : WX) (S H : Hp) (σ : St) (r : Res (List D)) (Q : List V → Hp → Prop) : Prop := match r with
  | .ok ds => ∀ vs S' H', Ext S H S' H' → RpAll K S' vs ds → Q vs H'
  | .err x => PostX W S H σ x
  | .st => False
def T (K : PySem.W.Frag) (W : WX) (f : Ev) : TE := fun σ H Q => ∃ S0 H0 S ρ, Rel K S0 H0 S H σ ρ ∧ PostD K W S H σ (f ρ) Q
def TB (K : PySem.W.Frag) (W : WX) (f : Rho → Res Bool) : TT := fun σ H Q => ∃ S0 H0 S ρ, Rel K S0 H0 S H σ ρ ∧ PostB W S H σ (f ρ) Q
def TAs (K : PySem.W.Frag) (W : WX) (f : Rho → Res (List D)) : TA := fun σ H Q => ∃ S0 H0 S ρ, Rel K S0 H0 S H σ ρ ∧ PostA K W S H σ (f ρ) Q
section
variable {K : PySem.W.Frag} {W : WX} {S H S' H' H1 : Hp} {σ : St} {x : Ex} {v : V} {d : D}
theorem Rv.pre (m : Same H1 H) (r : Rv K H S' H' v d) : Rv K H1 S' H' v d := by
  cases d with
  | new ds => obtain ⟨a, xs, h1, h2, h3, h4, h5⟩ := r; exact ⟨a, xs, h1, m.free h2, h3, h4, h5⟩
  | _ => exact r
theorem PostX.ext (p : PostX W S H σ x) (e : Ext S H S' H') : PostX W S' H' σ x := fun dd S2 H2 e2 h => p dd S2 H2 (e.trans e2) h
theorem PostD.ext {r : Res D} {Q : VK} (p : PostD K W S H σ r Q) (e : Ext S H S' H') : PostD K W S' H' σ r Q := by
  cases r with
  | ok d => exact fun v S2 H2 e2 h => p v S2 H2 (e.trans e2) (h.pre e.hh)
  | err x => exact PostX.ext p e
  | st => exact p
theorem PostB.ext {r : Res Bool} {Q : Bool → Hp → Prop} (p : PostB W S H σ r Q) (e : Ext S H S' H') : PostB W S' H' σ r Q := by
  cases r with
  | ok d => exact fun S2 H2 e2 => p S2 H2 (e.trans e2)
  | err x => exact PostX.ext p e
  | st => exact p
theorem PostA.ext {r : Res (List D)} {Q : List V → Hp → Prop} (p : PostA K W S H σ r Q) (e : Ext S H S' H') : PostA K W S' H' σ r Q := by
  cases r with
  | ok d => exact fun vs S2 H2 e2 h => p vs S2 H2 (e.trans e2) h
  | err x => exact PostX.ext p e
  | st => exact p
theorem PostO.ext {r : Option D} {Q : VK} (p : PostO K S H r Q) (e : Ext S H S' H') : PostO K S' H' r Q := by
  cases r with
  | some d => exact fun v S2 H2 e2 h => p v S2 H2 (e.trans e2) (h.pre e.hh)
  | none => exact p
theorem PostD.o {r : Option D} {Q : VK} (p : PostD K W S H σ (ofO r) Q) : PostO K S H r Q := by
  cases r <;> exact p
end
theorem PE.imp {X : Cx} {e : Expr} {t t' : TE} (h : PE X e t) (hi : ∀ σ H Q, t' σ H Q → t σ H Q) : PE X e t' := ⟨fun pins s σ H Q I q => h.run pins s σ H Q I (hi _ _ _ q)⟩
theorem PT.imp {X : Cx} {e : Expr} {t t' : TT} (h : PT X e t) (hi : ∀ σ H Q, t' σ H Q → t σ H Q) : PT X e t' := ⟨fun pins s σ H Q I q => h.run pins s σ H Q I (hi _ _ _ q)⟩
theorem PW.imp {X : Cx} {e : Expr} {t t' : TT} (h : PW X e t) (hi : ∀ σ H Q, t' σ H Q → t σ H Q) : PW X e t' := ⟨fun w pins s σ H Q I q => h.run w pins s σ H Q I (hi _ _ _ q)⟩
theorem PA.imp {X : Cx} {es : List Expr} {t t' : TA} (h : PA X es t) (hi : ∀ σ H Q, t' σ H Q → t σ H Q) : PA X es t' := ⟨fun pos pins s σ H Q I q => h.run pos pins s σ H Q I (hi _ _ _ q)⟩
theorem PS.imp {X : Cx} {st : Stmt} {t t' : TS} (h : PS X st t) (hi : ∀ D σ H, t' D σ H → t D σ H) : PS X st t' := ⟨fun pins s σ H D I q => h.run pins s σ H D I (hi _ _ _ q)⟩
theorem PSs.imp {X : Cx} {st : List Stmt} {t t' : TS} (h : PSs X st t) (hi : ∀ D σ H, t' D σ H → t D σ H) : PSs X st t' := ⟨fun pins s σ H D I q => h.run pins s σ H D I (hi _ _ _ q)⟩
theorem PG.imp {X : Cx} {e : Expr} {t t' : TG} (h : PG X e t) (hi : ∀ v σ H Q, t' v σ H Q → t v σ H Q) : PG X e t' := ⟨fun pins s σ H v u Q I r q => h.run pins s σ H v u Q I r (hi _ _ _ _ q)⟩

/-! ### operators by values -/
def e1 (g : D → Option D) (fa : Ev) : Ev := fun ρ => (fa ρ).bind fun x => ofO (g x)
def e2 (g : D → D → Option D) (fa fb : Ev) : Ev := fun ρ => (fa ρ).bind fun x => (fb ρ).bind fun y => ofO (g x y)
/-- r serves g -/
def Serves2 (K : PySem.W.Frag) (g : D → D → Option D) (r : R2) : Prop :=
  ∀ (S H : Hp) (v w : V) (dx dy : D) (Q : VK), Same S H → Rr K S H v dx → Rr K S H w dy → PostO K S H (g dx dy) Q → r v w H Q
def Serves1 (K : PySem.W.Frag) (g : D → Option D) (r : V → Hp → VK → Prop) : Prop :=
  ∀ (S H : Hp) (v : V) (dx : D) (Q : VK), Same S H → Rr K S H v dx → PostO K S H (g dx) Q → r v H Q
section
variable {X : Cx} {W : WX} {a b : Expr} {fa fb : Ev} {pos : Pos}
theorem t_e1 {K : PySem.W.Frag} {g : D → Option D} {r : V → Hp → VK → Prop} (hg : Serves1 K g r) {σ : St} {H : Hp} {Q : VK} (h : T K W (e1 g fa) σ H Q) : T K W fa σ H fun x H1 => r x H1 Q := by
  obtain ⟨S0, H0, S, ρ, R, p⟩ := h
  refine ⟨S0, H0, S, ρ, R, ?_⟩
  unfold e1 at p
  cases e : fa ρ with
  | ok d =>
    rw [e] at p
    exact fun v S' H' ex r => hg S' H' v d Q ex.sh (r.rr ex.sh) (PostD.o (p.ext ex))
  | err x => rw [e] at p; exact p
  | st => rw [e] at p; exact p
theorem t_e2 {K : PySem.W.Frag} {g : D → D → Option D} {r : R2} (hg : Serves2 K g r) {σ : St} {H : Hp} {Q : VK} (h : T K W (e2 g fa fb) σ H Q) : tOp r (T K W fa) (T K W fb) σ H Q := by
  obtain ⟨S0, H0, S, ρ, R, p⟩ := h
  refine ⟨S0, H0, S, ρ, R, ?_⟩
  unfold e2 at p
  cases e : fa ρ with
  | ok d =>
    rw [e] at p
    refine fun v S1 H1 e1 r1 => ⟨S0, H0, S1, ρ, R.ext e1, ?_⟩
    have p1 := p.ext e1
    cases eb : fb ρ with
    | ok d2 =>
      simp only [bind_ok, eb] at p1
      exact fun w S2 H2 e2 r2 => hg S2 H2 v w d d2 Q e2.sh ((r1.rr e1.sh).mono e2.ss e2.hh) (r2.rr e2.sh) (PostD.o (p1.ext e2))
    | err x => simp only [bind_ok, eb] at p1; exact p1
    | st => simp only [bind_ok, eb] at p1; exact p1
  | err x => rw [e] at p; exact p
  | st => rw [e] at p; exact p
theorem d_op {op : Operator} {r : R2} {g : D → D → Option D} (ho : OpR X (binaryOp op) r) (hg : Serves2 X.K g r) (ha : PE X a (T X.K W fa)) (hb : PE X b (T X.K W fb)) : PE X (.BinOp a op b pos) (T X.K W (e2 g fa fb)) :=
  PE.imp (pe_op ho ha hb) fun _ _ _ h => t_e2 hg h
theorem d_cmp {op : CmpOp} {r : R2} {g : D → D → Option D} (ho : OpR X (compareOp op) r) (hg : Serves2 X.K g r) (hm : behindInMarks op b = false) (ha : PE X a (T X.K W fa)) (hb : PE X b (T X.K W fb)) : PE X (.Compare a [op] [b] pos) (T X.K W (e2 g fa fb)) :=
  PE.imp (pe_cmpR ho ha hb hm) fun _ _ _ h => t_e2 hg h
theorem d_un {op : UnaryOp} {r : V → Hp → VK → Prop} {g : D → Option D} (ho : UnR X (unaryOp op) r) (hg : Serves1 X.K g r) (ha : PE X a (T X.K W fa)) : PE X (.UnaryOp op a pos) (T X.K W (e1 g fa)) :=
  PE.imp (pe_un ho ha) fun _ _ _ h => t_e1 hg h
end
/-- a value is laid for good -/
def D.settle : D → Option D
  | .new ds => some (.lst ds)
  | .bor _ => none
  | d => some d
def stE (f : Ev) : Ev := e1 D.settle f
section
variable {K : PySem.W.Frag} {W : WX} {f : Ev} {σ : St} {H : Hp} {Q : VK}
theorem t_stE (h : T K W (stE f) σ H Q) : T K W f σ H Q := by
  obtain ⟨S0, H0, S, ρ, R, p⟩ := h
  refine ⟨S0, H0, S, ρ, R, ?_⟩
  unfold stE e1 at p
  cases e : f ρ with
  | ok d =>
    rw [e] at p
    cases d with
    | new ds =>
      intro v S' H' ex r
      obtain ⟨a, xs, h1, h2, h3, h4, h5⟩ := r
      subst h1
      have ss : Same S' (upd S' a (.lst xs)) := fun b u q => by rw [upd_ne (ne_of_none q h3)]; exact q
      exact p _ _ _ (ex.settle h2 h3 h4) (.lst upd_same (h5.mono ss))
    | bor ds => exact p.elim
    | _ => exact p
  | err x => rw [e] at p; exact p
  | st => rw [e] at p; exact p
theorem settle_rp {d d' : D} (e : d.settle = some d') {S' H' : Hp} {v : V} (r : Rv K H S' H' v d') : Rp K S' v d' := by
  cases d with
  | new ds => cases e; exact r
  | bor ds => cases e
  | _ => cases e; exact r
end

/-! ### names, constants -/
def varE (i : Nat) : Ev := fun ρ => match ρ[i]? with
  | some (.v d) => .ok d
  | some (.own ds) => .ok (.bor ds)
  | _ => .st
def cE (d : D) : Ev := fun _ => .ok d
section
variable {X : Cx} {W : WX} {pos : Pos}
theorem t_var {i : Nat} {K : PySem.W.Frag} {σ : St} {H : Hp} {Q : VK} (h : T K W (varE i) σ H Q) : tVar i σ H Q := by
  obtain ⟨S0, H0, S, ρ, R, p⟩ := h
  unfold varE at p
  cases e : ρ[i]? with
  | none => rw [e] at p; exact p.elim
  | some s =>
    rw [e] at p
    obtain ⟨x, h1, h2⟩ := R.at_ i s e
    cases s with
    | un => exact p.elim
    | exc a => exact p.elim
    | ob l C fs => exact p.elim
    | v d =>
      obtain ⟨v, rfl, h3⟩ := h2
      refine ⟨v, h1, p v S H (Ext.refl R.sh) ?_⟩
      cases d with
      | new ds => cases h3
      | bor ds => cases h3
      | _ => exact h3
    | own ds =>
      obtain ⟨l, xs, rfl, h3, h4, h5, h6⟩ := h2
      exact ⟨_, h1, p _ S H (Ext.refl R.sh) ⟨l, xs, rfl, h4, h5, h6⟩⟩
theorem d_var {i : Nat} {x : Str} (hN : X.N[i]? = some x) (hv : Vis X.env.scope x) (hd : (x == ("__debug__" : Str)) = false := by decide) (hcd : (x == ("__classdict__" : Str)) = false := by decide) : PE X (.Name x pos) (T X.K W (varE i)) :=
  PE.imp (pe_var hN hv hd hcd) fun _ _ _ h => t_var h
theorem t_c {K : PySem.W.Frag} {d : D} {v : V} (hr : ∀ S H, Rv K S S H v d) {σ : St} {H : Hp} {Q : VK} (hr : ∀ S, Rp K S v d) (h : T K W (cE d) σ H Q) : tC v σ H Q := by
  obtain ⟨S0, H0, S, ρ, R, p⟩ := h
  refine p v S H (Ext.refl R.sh) ?_
  have q := hr S
  cases d with
  | new ds => cases q
  | bor ds => cases q
  | _ => exact q
theorem t_c' {K : PySem.W.Frag} {d : D} {v : V} (hr : ∀ S, Rp K S v d) {σ : St} {H : Hp} {Q : VK} (h : T K W (cE d) σ H Q) : tC v σ H Q := by
  obtain ⟨S0, H0, S, ρ, R, p⟩ := h
  refine p v S H (Ext.refl R.sh) ?_
  have q := hr S
  cases d with
  | new ds => cases q
  | bor ds => cases q
  | _ => exact q
theorem d_int {i : Int} {j : Nat} : PE X (.Constant (.int i) j pos) (T X.K W (cE (.int i))) := PE.imp pe_int fun _ _ _ h => t_c' (fun _ => .int i) h
theorem d_bl {b : Bool} {j : Nat} : PE X (.Constant (.bool b) j pos) (T X.K W (cE (.bl b))) := PE.imp pe_bl fun _ _ _ h => t_c' (fun _ => .bl b) h
theorem d_str {s : Str} {j : Nat} : PE X (.Constant (.str s) j pos) (T X.K W (cE (.str s))) := PE.imp pe_str fun _ _ _ h => t_c' (fun _ => .str s) h
theorem d_non {j : Nat} : PE X (.Constant .none j pos) (T X.K W (cE .non)) := PE.imp pe_non fun _ _ _ h => t_c' (fun _ => .non) h
end

/-! ### arithmetic -/
abbrev LINE : Nat := 16777216
theorem line_eq : sizeLine = LINE := sizeLine_eq
def mulOk (i j : Int) : Prop := ((-(2 ^ 64) < i ∧ i < 2 ^ 64) ∨ (-(2 ^ 64) < j ∧ j < 2 ^ 64)) ∨ (Builtin.Int.intBits i : Int) + (Builtin.Int.intBits j : Int) ≤ 134217728
instance (i j : Int) : Decidable (mulOk i j) := by unfold mulOk; infer_instance
def addD (x y : D) : Option D := match x, y with
  | .int i, .int j => some (.int (i + j))
  | .str i, .str j => if i.length + j.length ≤ LINE then some (.str (i ++ j)) else none
  | .tup xs, .tup ys => if xs.length + ys.length ≤ LINE then some (.tup (xs ++ ys)) else none
  | x, y => match x.items, y.items with
    | some xs, some ys => if xs.length + ys.length ≤ LINE then some (.new (xs ++ ys)) else none
    | _, _ => none
def subD (x y : D) : Option D := match x, y with
  | .int i, .int j => some (.int (i - j))
  | _, _ => none
def mulD (x y : D) : Option D := match x, y with
  | .int i, .int j => if mulOk i j then some (.int (i * j)) else none
  | _, _ => none
def fdivD (x y : D) : Option D := match x, y with
  | .int i, .int j => if 0 < j ∧ j.natAbs.log2 < 9000 then some (.int (i / j)) else if j ≠ 0 ∧ j.natAbs < 1073741824 then some (.int (i.fdiv j)) else none
  | _, _ => none
def modD (x y : D) : Option D := match x, y with
  | .int i, .int j => if 0 < j then some (.int (i % j)) else if j ≠ 0 then some (.int (i.fmod j)) else none
  | _, _ => none
def powD (x y : D) : Option D := match x, y with
  | .int i, .int j => if 0 ≤ j ∧ j ≤ 1000000 ∧ i.natAbs < 2 ^ 64 then some (.int (i ^ j.toNat)) else none
  | _, _ => none
def negD : D → Option D
  | .int i => some (.int (-i))
  | _ => none
section
variable {X : Cx}
def rAddD (K : PySem.W.Frag) : R2 := fun x y H Q => ((rI0 fun i j => .int (i + j)) x y H Q ∨ (∃ i j, x = .str i ∧ y = .str j ∧ i.length + j.length ≤ sizeLine ∧ Q (.str (i ++ j)) H)) ∨ (rCatA K x y H Q ∨ rCat x y H Q)
theorem op_addD : OpR X (binaryOp .Add) (rAddD X.K) := (op_add.or op_add_str).or (op_catA.or op_cat)
theorem PostO.val {K : PySem.W.Frag} {S H : Hp} {d : D} {Q : VK} {v : V} (hs : Same S H) (p : PostO K S H (some d) Q) (r : Rp K S v d) : Q v H := by
  refine p v S H (Ext.refl hs) ?_
  cases d with
  | new ds => cases r
  | bor ds => cases r
  | _ => exact r
/-- a new list -/
theorem PostO.new {K : PySem.W.Frag} {S H : Hp} {ds : List D} {Q : VK} (hs : Same S H) (p : PostO K S H (some (.new ds)) Q) {xs : List V} (r : RpAll K S xs ds) : ∀ q, H q = none → Q (.ref q) (upd H q (.lst xs)) :=
  fun q n => p _ S _ (Ext.mk0 hs n _) ⟨q, xs, rfl, n, hs.free n, upd_same, r⟩
theorem PostO.tup {K : PySem.W.Frag} {S H : Hp} {ds : List D} {Q : VK} (hs : Same S H) (p : PostO K S H (some (.tup ds)) Q) {xs : List V} (r : RpAll K S xs ds) : ∀ q, H q = none → Q (.ref q) (upd H q (.tup xs)) :=
  fun q n => p _ _ _ (Ext.mk1 hs n _) (.tup (SqT.of upd_same) (r.mono (Ext.mk1 hs n _).ss))
theorem addD_ok : Serves2 X.K addD (rAddD X.K) := by
  intro S H v w dx dy Q hs r1 r2 p
  have lists : ∀ xs ys, dx.items = some xs → dy.items = some ys → PostO X.K S H (if xs.length + ys.length ≤ LINE then some (.new (xs ++ ys)) else none) Q → rAddD X.K v w H Q := fun xs ys e1 e2 p => by
    obtain ⟨a, us, rfl, ha, ra⟩ := r1.items e1
    obtain ⟨b, ws, rfl, hb, rb⟩ := r2.items e2
    by_cases hl : xs.length + ys.length ≤ LINE
    · rw [if_pos hl] at p
      exact .inr (.inr ⟨a, b, us, ws, rfl, rfl, ha, hb, by rw [ra.length, rb.length, line_eq]; exact hl, p.new hs (ra.append rb)⟩)
    · rw [if_neg hl] at p; exact p.elim
  have other : (∀ xs ys, dx.items = some xs → dy.items = some ys → False) → (match dx.items, dy.items with
    | some xs, some ys => if xs.length + ys.length ≤ LINE then some (D.new (xs ++ ys)) else none
    | _, _ => none) = none := fun h => by
    cases e1 : dx.items with
    | none => rfl
    | some xs =>
      cases e2 : dy.items with
      | none => rfl
      | some ys => exact (h xs ys e1 e2).elim
  unfold addD at p
  split at p
  · rename_i i j
    cases r1
    cases r2
    exact .inl (.inl ⟨i, j, rfl, rfl, p.val hs (.int _)⟩)
  · rename_i i j
    cases r1
    cases r2
    by_cases hl : i.length + j.length ≤ LINE
    · rw [if_pos hl] at p
      exact .inl (.inr ⟨i, j, rfl, rfl, by rw [line_eq]; exact hl, p.val hs (.str _)⟩)
    · rw [if_neg hl] at p; exact p.elim
  · rename_i xs ys
    cases r1 with
    | tup h1 q1 =>
      cases r2 with
      | tup h2 q2 =>
        rename_i a us b ws
        by_cases hl : xs.length + ys.length ≤ LINE
        · rw [if_pos hl] at p
          refine .inr (.inl ⟨a, b, us, ws, rfl, rfl, Same.seqT hs h1, Same.seqT hs h2, by rw [q1.length, q2.length, line_eq]; exact hl, fun e => ?_, fun _ e => ?_, fun _ _ => p.tup hs (q1.append q2)⟩)
          · subst e
            cases q1
            exact p.val hs (.tup h2 q2)
          · subst e
            cases q2
            rw [List.append_nil] at p
            exact p.val hs (.tup h1 q1)
        · rw [if_neg hl] at p; exact p.elim
  · cases e1 : dx.items with
    | none => simp only [e1] at p; exact p.elim
    | some xs =>
      cases e2 : dy.items with
      | none => simp only [e1, e2] at p; exact p.elim
      | some ys =>
        simp only [e1, e2] at p
        exact lists xs ys e1 e2 p
theorem subD_ok : Serves2 X.K subD (rI0 fun i j => .int (i - j)) := by
  intro S H v w dx dy Q hs r1 r2 p
  unfold subD at p
  split at p
  · cases r1
    cases r2
    exact ⟨_, _, rfl, rfl, p.val hs (.int _)⟩
  · exact p.elim
def rMulD : R2 := fun x y H Q => (rI CMul fun i j => .int (i * j)) x y H Q ∨ (rI CMulX fun i j => .int (i * j)) x y H Q
theorem op_mulD : OpR X (binaryOp .Mult) rMulD := op_mul.or op_mulX
theorem mulD_ok : Serves2 X.K mulD rMulD := by
  intro S H v w dx dy Q hs r1 r2 p
  unfold mulD at p
  split at p
  · rename_i i j
    cases r1
    cases r2
    by_cases hm : mulOk i j
    · rw [if_pos hm] at p
      rcases hm with hm | hm
      · exact .inl ⟨_, _, rfl, rfl, hm, p.val hs (.int _)⟩
      · exact .inr ⟨_, _, rfl, rfl, hm, p.val hs (.int _)⟩
    · rw [if_neg hm] at p; exact p.elim
  · exact p.elim
def rFdivD : R2 := fun x y H Q => (rI CDivW fun i j => .int (i / j)) x y H Q ∨ (rI CDivN fun i j => .int (i.fdiv j)) x y H Q
theorem op_fdivD : OpR X (binaryOp .FloorDiv) rFdivD := op_fdivW.or op_fdivN
theorem fdivD_ok : Serves2 X.K fdivD rFdivD := by
  intro S H v w dx dy Q hs r1 r2 p
  unfold fdivD at p
  split at p
  · rename_i i j
    cases r1
    cases r2
    split at p
    · rename_i hm
      exact .inl ⟨_, _, rfl, rfl, hm, p.val hs (.int _)⟩
    · split at p
      · rename_i hm
        exact .inr ⟨_, _, rfl, rfl, hm, p.val hs (.int _)⟩
      · exact p.elim
  · exact p.elim
def rModD : R2 := fun x y H Q => (rI (fun _ j => 0 < j) fun i j => .int (i % j)) x y H Q ∨ (rI (fun _ j => j ≠ 0) fun i j => .int (i.fmod j)) x y H Q
theorem op_modD : OpR X (binaryOp .Mod) rModD := op_mod.or op_modN
theorem modD_ok : Serves2 X.K modD rModD := by
  intro S H v w dx dy Q hs r1 r2 p
  unfold modD at p
  split at p
  · rename_i i j
    cases r1
    cases r2
    split at p
    · rename_i hm
      exact .inl ⟨_, _, rfl, rfl, hm, p.val hs (.int _)⟩
    · split at p
      · rename_i hm
        exact .inr ⟨_, _, rfl, rfl, hm, p.val hs (.int _)⟩
      · exact p.elim
  · exact p.elim
theorem powD_ok : Serves2 X.K powD (rI CPow fun i j => .int (i ^ j.toNat)) := by
  intro S H v w dx dy Q hs r1 r2 p
  unfold powD at p
  split at p
  · cases r1
    cases r2
    split at p
    · rename_i hm
      exact ⟨_, _, rfl, rfl, hm, p.val hs (.int _)⟩
    · exact p.elim
  · exact p.elim
theorem negD_ok : Serves1 X.K negD (rU fun i => .int (-i)) := by
  intro S H v dx Q hs r1 p
  unfold negD at p
  split at p
  · cases r1
    exact ⟨_, rfl, p.val hs (.int _)⟩
  · exact p.elim
end
section
variable {X : Cx} {W : WX} {a b : Expr} {fa fb : Ev} {pos : Pos}
theorem d_add (ha : PE X a (T X.K W fa)) (hb : PE X b (T X.K W fb)) : PE X (.BinOp a .Add b pos) (T X.K W (e2 addD fa fb)) := d_op op_addD addD_ok ha hb
theorem d_sub (ha : PE X a (T X.K W fa)) (hb : PE X b (T X.K W fb)) : PE X (.BinOp a .Sub b pos) (T X.K W (e2 subD fa fb)) := d_op op_sub subD_ok ha hb
theorem d_mul (ha : PE X a (T X.K W fa)) (hb : PE X b (T X.K W fb)) : PE X (.BinOp a .Mult b pos) (T X.K W (e2 mulD fa fb)) := d_op op_mulD mulD_ok ha hb
theorem d_fdiv (ha : PE X a (T X.K W fa)) (hb : PE X b (T X.K W fb)) : PE X (.BinOp a .FloorDiv b pos) (T X.K W (e2 fdivD fa fb)) := d_op op_fdivD fdivD_ok ha hb
theorem d_mod (ha : PE X a (T X.K W fa)) (hb : PE X b (T X.K W fb)) : PE X (.BinOp a .Mod b pos) (T X.K W (e2 modD fa fb)) := d_op op_modD modD_ok ha hb
theorem d_pow (ha : PE X a (T X.K W fa)) (hb : PE X b (T X.K W fb)) : PE X (.BinOp a .Pow b pos) (T X.K W (e2 powD fa fb)) := d_op op_pow powD_ok ha hb
theorem d_neg (ha : PE X a (T X.K W fa)) : PE X (.UnaryOp .USub a pos) (T X.K W (e1 negD fa)) := d_un un_neg negD_ok ha
end

/-! ### comparisons -/
mutual
def D.py : D → PyData
  | .non => .none
  | .bl b => .bool b
  | .int i => .int i
  | .str s => .str s
  | .lst ds => .list (D.pyAll ds)
  | .tup ds => .tuple (D.pyAll ds)
  | .new ds => .list (D.pyAll ds)
  | .bor ds => .list (D.pyAll ds)
  | .frz ns => .list (ns.map PyData.int)
  | .obj _ _ => .none
def D.pyAll : List D → List PyData
  | [] => []
  | d :: ds => D.py d :: D.pyAll ds
end
mutual
/-- no object of a class in it -/
def D.pure : D → Bool
  | .lst ds => D.pureAll ds
  | .tup ds => D.pureAll ds
  | .new ds => D.pureAll ds
  | .bor ds => D.pureAll ds
  | .obj _ _ => false
  | .frz _ => false
  | _ => true
def D.pureAll : List D → Bool
  | [] => true
  | d :: ds => D.pure d && D.pureAll ds
end
section
variable {K : PySem.W.Frag} {S H : Hp}
mutual
theorem Rp.dp (m : Same S H) : ∀ {v : V} {d : D}, Rp K S v d → d.pure = true → Dp K H v d.py
  | _, _, .non, _ => by rw [D.py]; exact .non
  | _, _, .bl b, _ => by rw [D.py]; exact .bl b
  | _, _, .int i, _ => by rw [D.py]; exact .int i
  | _, _, .str s, _ => by rw [D.py]; exact .str s
  | _, _, .lst h r, e => by rw [D.py]; rw [D.pure] at e; exact .lst (SqL.of (m _ _ h)) (RpAll.dp m r e)
  | _, _, .tup h r, e => by rw [D.py]; rw [D.pure] at e; exact .tup (Same.seqT m h) (RpAll.dp m r e)
  | _, _, .frz h, e => by rw [D.pure] at e; cases e
  | _, _, .obj h r, e => by rw [D.pure] at e; cases e
theorem RpAll.dp (m : Same S H) : ∀ {vs : List V} {ds : List D}, RpAll K S vs ds → D.pureAll ds = true → DpAll K H vs (D.pyAll ds)
  | _, _, .nil, _ => by rw [D.pyAll]; exact .nil
  | _, _, .cons h r, e => by
    rw [D.pureAll, Bool.and_eq_true] at e
    rw [D.pyAll]; exact .cons (Rp.dp m h e.1) (RpAll.dp m r e.2)
end
theorem Rr.dp (m : Same S H) {v : V} {d : D} (r : Rr K S H v d) (e : d.pure = true) : Dp K H v d.py := by
  cases d with
  | lst ds => obtain ⟨a, xs, rfl, h, q⟩ := r; rw [D.py]; rw [D.pure] at e; exact .lst (SqL.of h) (q.dp m e)
  | new ds => obtain ⟨a, xs, rfl, h, q⟩ := r; rw [D.py]; rw [D.pure] at e; exact .lst (SqL.of h) (q.dp m e)
  | bor ds => obtain ⟨a, xs, rfl, h, q⟩ := r; rw [D.py]; rw [D.pure] at e; exact .lst (SqL.of h) (q.dp m e)
  | _ => exact Rp.dp m r e
end
def okEq (d : D) : Bool := d.pure && SeqAt.shaped d.py
def eqD (x y : D) : Option D := if okEq x && okEq y then some (.bl (PyData.eqv x.py y.py)) else none
def neD (x y : D) : Option D := if okEq x && okEq y then some (.bl (!PyData.eqv x.py y.py)) else none
def ltD (x y : D) : Option D := match x, y with | .int i, .int j => some (.bl (decide (i < j))) | _, _ => none
def leD (x y : D) : Option D := match x, y with | .int i, .int j => some (.bl (decide (i ≤ j))) | _, _ => none
def gtD (x y : D) : Option D := match x, y with | .int i, .int j => some (.bl (decide (j < i))) | _, _ => none
def geD (x y : D) : Option D := match x, y with | .int i, .int j => some (.bl (decide (j ≤ i))) | _, _ => none
def D.isNon : D → Bool | .non => true | _ => false
def isD (x y : D) : Option D := match x, y with
  | .bl a, .bl b => some (.bl (decide (a = b)))
  | x, .non => some (.bl x.isNon)
  | _, _ => none
def notIsD (x y : D) : Option D := match x, y with
  | .bl a, .bl b => some (.bl (!decide (a = b)))
  | x, .non => some (.bl (!x.isNon))
  | _, _ => none
theorem Rr.isNon {K : PySem.W.Frag} {S H : Hp} {v : V} {d : D} (r : Rr K S H v d) : decide (v = .non) = d.isNon := by
  cases d with
  | lst ds => obtain ⟨a, xs, rfl, _, _⟩ := r; rfl
  | new ds => obtain ⟨a, xs, rfl, _, _⟩ := r; rfl
  | bor ds => obtain ⟨a, xs, rfl, _, _⟩ := r; rfl
  | non => cases r; rfl
  | bl b => cases r; rfl
  | int i => cases r; rfl
  | str i => cases r; rfl
  | tup i => cases r; rfl
  | frz i => cases r; rfl
  | obj i => cases r; rfl
section
variable {X : Cx}
theorem eqD_ok : Serves2 X.K eqD (rEqD X.K) := by
  intro S H v w dx dy Q hs r1 r2 p
  unfold eqD at p
  split at p
  · rename_i h
    rw [Bool.and_eq_true] at h
    obtain ⟨h1, h2⟩ := h
    unfold okEq at h1 h2
    rw [Bool.and_eq_true] at h1 h2
    exact ⟨_, _, r1.dp hs h1.1, r2.dp hs h2.1, h1.2, h2.2, p.val hs (.bl _)⟩
  · exact p.elim
theorem neD_ok : Serves2 X.K neD (rNeD X.K) := by
  intro S H v w dx dy Q hs r1 r2 p
  unfold neD at p
  split at p
  · rename_i h
    rw [Bool.and_eq_true] at h
    obtain ⟨h1, h2⟩ := h
    unfold okEq at h1 h2
    rw [Bool.and_eq_true] at h1 h2
    exact ⟨_, _, r1.dp hs h1.1, r2.dp hs h2.1, h1.2, h2.2, p.val hs (.bl _)⟩
  · exact p.elim
theorem ltD_ok : Serves2 X.K ltD (rI0 fun i j => .bl (decide (i < j))) := by
  intro S H v w dx dy Q hs r1 r2 p
  unfold ltD at p
  split at p
  · cases r1
    cases r2
    exact ⟨_, _, rfl, rfl, p.val hs (.bl _)⟩
  · exact p.elim
theorem leD_ok : Serves2 X.K leD (rI0 fun i j => .bl (decide (i ≤ j))) := by
  intro S H v w dx dy Q hs r1 r2 p
  unfold leD at p
  split at p
  · cases r1
    cases r2
    exact ⟨_, _, rfl, rfl, p.val hs (.bl _)⟩
  · exact p.elim
theorem gtD_ok : Serves2 X.K gtD (rI0 fun i j => .bl (decide (j < i))) := by
  intro S H v w dx dy Q hs r1 r2 p
  unfold gtD at p
  split at p
  · cases r1
    cases r2
    exact ⟨_, _, rfl, rfl, p.val hs (.bl _)⟩
  · exact p.elim
theorem geD_ok : Serves2 X.K geD (rI0 fun i j => .bl (decide (j ≤ i))) := by
  intro S H v w dx dy Q hs r1 r2 p
  unfold geD at p
  split at p
  · cases r1
    cases r2
    exact ⟨_, _, rfl, rfl, p.val hs (.bl _)⟩
  · exact p.elim
def rIsD : R2 := fun x y H Q => rIsB x y H Q ∨ (y = .non ∧ Q (.bl (decide (x = .non))) H)
theorem op_isD : OpR X (compareOp .Is) rIsD := op_isBl.or op_isN
theorem isD_ok : Serves2 X.K isD rIsD := by
  intro S H v w dx dy Q hs r1 r2 p
  unfold isD at p
  split at p
  · cases r1
    cases r2
    exact .inl ⟨_, _, rfl, rfl, p.val hs (.bl _)⟩
  · cases r2
    refine .inr ⟨rfl, ?_⟩
    rw [r1.isNon]
    exact p.val hs (.bl _)
  · exact p.elim
def rNotIsD : R2 := fun x y H Q => rNotB x y H Q ∨ (y = .non ∧ Q (.bl (!decide (x = .non))) H)
theorem op_notIsD : OpR X (compareOp .IsNot) rNotIsD := op_notBl.or op_notN
theorem notIsD_ok : Serves2 X.K notIsD rNotIsD := by
  intro S H v w dx dy Q hs r1 r2 p
  unfold notIsD at p
  split at p
  · cases r1
    cases r2
    exact .inl ⟨_, _, rfl, rfl, p.val hs (.bl _)⟩
  · cases r2
    refine .inr ⟨rfl, ?_⟩
    rw [r1.isNon]
    exact p.val hs (.bl _)
  · exact p.elim
end
section
variable {X : Cx} {W : WX} {a b : Expr} {fa fb : Ev} {pos : Pos}
theorem d_eq (hu : X.A.units + 64 < cLine) (ha : PE X a (T X.K W fa)) (hb : PE X b (T X.K W fb)) : PE X (.Compare a [.Eq] [b] pos) (T X.K W (e2 eqD fa fb)) := d_cmp (op_eqD hu) eqD_ok (nomark _) ha hb
theorem d_ne (hu : X.A.units + 64 < cLine) (ha : PE X a (T X.K W fa)) (hb : PE X b (T X.K W fb)) : PE X (.Compare a [.NotEq] [b] pos) (T X.K W (e2 neD fa fb)) := d_cmp (op_neD hu) neD_ok (nomark _) ha hb
theorem d_lt (ha : PE X a (T X.K W fa)) (hb : PE X b (T X.K W fb)) : PE X (.Compare a [.Lt] [b] pos) (T X.K W (e2 ltD fa fb)) := d_cmp op_lt ltD_ok (nomark _) ha hb
theorem d_le (ha : PE X a (T X.K W fa)) (hb : PE X b (T X.K W fb)) : PE X (.Compare a [.LtE] [b] pos) (T X.K W (e2 leD fa fb)) := d_cmp op_le leD_ok (nomark _) ha hb
theorem d_gt (ha : PE X a (T X.K W fa)) (hb : PE X b (T X.K W fb)) : PE X (.Compare a [.Gt] [b] pos) (T X.K W (e2 gtD fa fb)) := d_cmp op_gt gtD_ok (nomark _) ha hb
theorem d_ge (ha : PE X a (T X.K W fa)) (hb : PE X b (T X.K W fb)) : PE X (.Compare a [.GtE] [b] pos) (T X.K W (e2 geD fa fb)) := d_cmp op_ge geD_ok (nomark _) ha hb
theorem d_is (ha : PE X a (T X.K W fa)) (hb : PE X b (T X.K W fb)) : PE X (.Compare a [.Is] [b] pos) (T X.K W (e2 isD fa fb)) := d_cmp op_isD isD_ok (nomark _) ha hb
theorem d_notIs (ha : PE X a (T X.K W fa)) (hb : PE X b (T X.K W fb)) : PE X (.Compare a [.IsNot] [b] pos) (T X.K W (e2 notIsD fa fb)) := d_cmp op_notIsD notIsD_ok (nomark _) ha hb
end
end DL

namespace DL
open PySem L2

/-! ### arguments, displays -/
abbrev Ea := Rho → Res (List D)
def nilA : Ea := fun _ => .ok []
def consA (f : Ev) (fs : Ea) : Ea := fun ρ => (stE f ρ).bind fun x => (fs ρ).bind fun xs => .ok (x :: xs)
theorem stE_ok {f : Ev} {ρ : Rho} {d : D} (h : stE f ρ = .ok d) : ∃ d0, f ρ = .ok d0 ∧ d0.settle = some d := by
  unfold stE e1 at h
  cases e : f ρ with
  | ok d0 =>
    rw [e] at h
    refine ⟨d0, rfl, ?_⟩
    simp only [bind_ok] at h
    cases e2 : d0.settle with
    | none => rw [e2] at h; cases h
    | some d2 => rw [e2] at h; cases h; rfl
  | err x => rw [e] at h; cases h
  | st => rw [e] at h; cases h
section
variable {X : Cx} {W : WX} {a b e : Expr} {es : List Expr} {fa fb f : Ev} {fs : Ea} {pos : Pos}
theorem t_cons {K : PySem.W.Frag} {σ : St} {H : Hp} {Q : List V → Hp → Prop} (h : TAs K W (consA f fs) σ H Q) : tCons (T K W f) (TAs K W fs) σ H Q := by
  obtain ⟨S0, H0, S, ρ, R, p⟩ := h
  refine t_stE ⟨S0, H0, S, ρ, R, ?_⟩
  unfold consA at p
  cases e : stE f ρ with
  | ok d =>
    rw [e] at p
    obtain ⟨d0, _, hd⟩ := stE_ok e
    refine fun v S1 H1 e1 r1 => ⟨S0, H0, S1, ρ, R.ext e1, ?_⟩
    have r1 := settle_rp hd r1
    have p1 := p.ext e1
    cases eb : fs ρ with
    | ok ds =>
      simp only [bind_ok, eb] at p1
      exact fun vs S2 H2 e2 r2 => p1 _ S2 H2 e2 (.cons (r1.mono e2.ss) r2)
    | err x => simp only [bind_ok, eb] at p1; exact p1
    | st => simp only [bind_ok, eb] at p1; exact p1
  | err x => rw [e] at p; exact p
  | st => rw [e] at p; exact p
theorem a_nil : PA X [] (TAs X.K W nilA) := PA.imp pa_nil fun _ _ _ h => by
  obtain ⟨S0, H0, S, ρ, R, p⟩ := h
  exact p [] S _ (Ext.refl R.sh) .nil
theorem a_cons (ha : PE X e (T X.K W f)) (hr : PA X es (TAs X.K W fs)) (hs : starEach (e :: es) X.env = (false, eval e X.env) :: starEach es X.env := by rfl) : PA X (e :: es) (TAs X.K W (consA f fs)) :=
  PA.imp (pa_cons ha hr hs) fun _ _ _ h => t_cons h
def tupE (fs : Ea) : Ev := fun ρ => (fs ρ).bind fun ds => if ds.length ≤ LINE then .ok (.tup ds) else .st
def lstE (fs : Ea) : Ev := fun ρ => (fs ρ).bind fun ds => if ds.length ≤ LINE then .ok (.new ds) else .st
theorem d_tup {x1} (h : PA X es (TAs X.K W fs)) : PE X (.Tuple es x1 pos) (T X.K W (tupE fs)) := PE.imp (pe_tup h) fun σ H Q h => by
  obtain ⟨S0, H0, S, ρ, R, p⟩ := h
  refine ⟨S0, H0, S, ρ, R, ?_⟩
  unfold tupE at p
  cases e : fs ρ with
  | ok ds =>
    rw [e] at p
    simp only [bind_ok] at p
    by_cases hl : ds.length ≤ LINE
    · rw [if_pos hl] at p
      exact fun vs S' H' ex r => ⟨by rw [r.length, line_eq]; exact hl, (PostD.o (r := some _) (p.ext ex)).tup ex.sh r⟩
    · rw [if_neg hl] at p; exact p.elim
  | err x => rw [e] at p; exact p
  | st => rw [e] at p; exact p
theorem d_lst (h : PA X es (TAs X.K W fs)) : PE X (.List es pos) (T X.K W (lstE fs)) := PE.imp (pe_lst h) fun σ H Q h => by
  obtain ⟨S0, H0, S, ρ, R, p⟩ := h
  refine ⟨S0, H0, S, ρ, R, ?_⟩
  unfold lstE at p
  cases e : fs ρ with
  | ok ds =>
    rw [e] at p
    simp only [bind_ok] at p
    by_cases hl : ds.length ≤ LINE
    · rw [if_pos hl] at p
      exact fun vs S' H' ex r => ⟨by rw [r.length, line_eq]; exact hl, (PostD.o (r := some _) (p.ext ex)).new ex.sh r⟩
    · rw [if_neg hl] at p; exact p.elim
  | err x => rw [e] at p; exact p
  | st => rw [e] at p; exact p
end

/-! ### subscripts, slices -/
def ixD (x y : D) : Option D := match x, y with
  | .tup ds, .int i => atI ds i
  | .str z, .int i => if z.length ≤ LINE then (atI z.cps.toList i).map fun c => .str ⟨#[c]⟩ else none
  | x, .int i => x.items.bind fun ds => atI ds i
  | _, _ => none
theorem RpAll.atI {K : PySem.W.Frag} {H : Hp} {vs : List V} {ds : List D} {i : Int} {d : D} (r : RpAll K H vs ds) (h : L2.atI ds i = some d) : ∃ v, L2.atI vs i = some v ∧ Rp K H v d := by
  unfold L2.atI at h ⊢
  rw [r.length]
  cases e : ixN ds.length i with
  | none => rw [e] at h; cases h
  | some j =>
    rw [e] at h
    exact r.get h
section
variable {X : Cx} {W : WX} {a b e : Expr} {fa fb f : Ev} {pos p2 : Pos}
theorem ixD_ok : Serves2 X.K ixD (rIx X.K) := by
  intro S H v w dx dy Q hs r1 r2 p
  unfold ixD at p
  split at p
  · rename_i ds i
    cases r2
    cases r1 with
    | tup h q =>
      cases e : L2.atI ds i with
      | none => rw [e] at p; exact p.elim
      | some d =>
        rw [e] at p
        obtain ⟨z, h1, h2⟩ := q.atI e
        exact .inr (.inl ⟨_, _, i, z, rfl, rfl, Same.seqT hs h, h1, p.val hs h2⟩)
  · rename_i z i
    cases r2
    cases r1
    split at p
    · rename_i hl
      cases e : L2.atI z.cps.toList i with
      | none => rw [e] at p; exact p.elim
      | some c =>
        rw [e] at p
        exact .inr (.inr ⟨z, i, c, rfl, rfl, by rw [line_eq]; exact hl, e, p.val hs (.str _)⟩)
    · exact p.elim
  · rename_i x i _ _
    cases r2
    cases e : dx.items with
    | none => rw [e] at p; exact p.elim
    | some ds =>
      rw [e] at p
      obtain ⟨a, xs, rfl, ha, q⟩ := r1.items e
      simp only [Option.bind_some] at p
      cases e2 : L2.atI ds i with
      | none => rw [e2] at p; exact p.elim
      | some d =>
        rw [e2] at p
        obtain ⟨z, h1, h2⟩ := q.atI e2
        exact .inl ⟨a, xs, i, z, rfl, rfl, SqL.of ha, h1, p.val hs h2⟩
  · exact p.elim
theorem d_ix (ha : PE X a (T X.K W fa)) (hb : PE X b (T X.K W fb)) (hs : PlainIx b := by exact fun _ _ => rfl) : PE X (.Subscript a b pos) (T X.K W (e2 ixD fa fb)) :=
  PE.imp (pe_ix ix_seq ha hb hs) fun _ _ _ h => t_e2 ixD_ok h
def cutL {α : Type} (xs : List α) (lo hi : Option Int) : List α := (xs.drop (HT.sIx xs.length 0 lo)).take (HT.sIx xs.length xs.length hi - HT.sIx xs.length 0 lo)
def sliceD (x : D) (lo hi : Option Int) : Option D := match x with
  | .tup ds => some (.tup (cutL ds lo hi))
  | .frz ns => some (.new ((cutL ns lo hi).map .int))
  | .str z => if z.length ≤ LINE then some (.str (cutS z lo hi)) else none
  | x => x.items.map fun ds => .new (cutL ds lo hi)
abbrev Eo := Rho → Res (Option Int)
def noO : Eo := fun _ => .ok none
def someO (f : Ev) : Eo := fun ρ => (f ρ).bind fun d => match d with | .int i => .ok (some i) | _ => .st
def sliceE (f : Ev) (fl fh : Eo) : Ev := fun ρ => (f ρ).bind fun x => (fl ρ).bind fun l => (fh ρ).bind fun h => ofO (sliceD x l h)
def PostI (W : WX) (S H : Hp) (σ : St) (r : Res (Option Int)) (Q : Option Int → Hp → Prop) : Prop := match r with
  | .ok i => ∀ S' H', Ext S H S' H' → Q i H'
  | .err x => PostX W S H σ x
  | .st => False
def TOs (K : PySem.W.Frag) (W : WX) (f : Eo) : TO := fun σ H Q => ∃ S0 H0 S ρ, Rel K S0 H0 S H σ ρ ∧ PostI W S H σ (f ρ) Q
theorem PO.imp {X : Cx} {e : Option Expr} {t t' : TO} (h : PO X e t) (hi : ∀ σ H Q, t' σ H Q → t σ H Q) : PO X e t' := ⟨fun pins s σ H Q I q => h.run pins s σ H Q I (hi _ _ _ q)⟩
theorem o_none : PO X none (TOs X.K W noO) := PO.imp po_none fun σ H Q h => by
  obtain ⟨S0, H0, S, ρ, R, p⟩ := h
  exact p S H (Ext.refl R.sh)
theorem o_some (h : PE X e (T X.K W f)) : PO X (some e) (TOs X.K W (someO f)) := PO.imp (po_some h) fun σ H Q h => by
  obtain ⟨S0, H0, S, ρ, R, p⟩ := h
  refine ⟨S0, H0, S, ρ, R, ?_⟩
  unfold someO at p
  cases e : f ρ with
  | ok d =>
    rw [e] at p
    cases d with
    | int i => exact fun v S' H' ex r => by cases r; exact ⟨i, rfl, p S' H' ex⟩
    | _ => exact p.elim
  | err x => rw [e] at p; exact p
  | st => rw [e] at p; exact p
theorem cutL_length {α : Type} (xs : List α) (lo hi : Option Int) : (cutL xs lo hi).length ≤ xs.length := by
  unfold cutL
  rw [List.length_take, List.length_drop]
  omega
theorem RpAll.cut {K : PySem.W.Frag} {H : Hp} {vs : List V} {ds : List D} (r : RpAll K H vs ds) (lo hi : Option Int) : RpAll K H (cutV vs lo hi) (cutL ds lo hi) := by
  unfold cutV cutL
  rw [r.length]
  exact (r.drop _).take _
theorem cut_whole {α : Type} {xs : List α} {lo hi : Option Int} (h : HT.sIx xs.length 0 lo = 0 ∧ HT.sIx xs.length xs.length hi = xs.length) : cutL xs lo hi = xs := by
  unfold cutL
  rw [h.1, h.2]; simp
def rSlD (K : PySem.W.Frag) : V → Option Int → Option Int → Hp → VK → Prop := fun x lo hi H Q => (rSlL K x lo hi H Q ∨ rSlA K x lo hi H Q) ∨ ∃ z, x = .str z ∧ z.length ≤ sizeLine ∧ Q (.str (cutS z lo hi)) H
theorem sl_D : SlR X (rSlD X.K) := (sl_list.or sl_tupA).or sl_str
theorem sliceD_ok {K : PySem.W.Frag} {S H : Hp} {v : V} {dx : D} {lo hi : Option Int} {Q : VK} (hs : Same S H) (r : Rr K S H v dx) (p : PostO K S H (sliceD dx lo hi) Q) : rSlD K v lo hi H Q := by
  unfold sliceD at p
  split at p
  · rename_i ds
    cases r with
    | tup h q =>
      rename_i a xs
      refine .inl (.inr ⟨a, xs, rfl, Same.seqT hs h, fun w => ?_, fun _ => p.tup hs (q.cut lo hi)⟩)
      rw [q.length] at w
      rw [cut_whole w] at p
      exact p.val hs (.tup h q)
  · rename_i ns
    cases r with
    | frz h =>
      rename_i a
      refine .inl (.inl ⟨a, _, rfl, hs.seq h, fun q n => ?_⟩)
      have e : cutV (ns.map V.int) lo hi = (cutL ns lo hi).map V.int := by
        unfold cutV cutL
        rw [List.length_map, List.map_take, List.map_drop]
      rw [e]
      exact p.new hs (RpAll.of_ints _) q n
  · rename_i z
    cases r
    split at p
    · rename_i hl
      exact .inr ⟨z, rfl, by rw [line_eq]; exact hl, p.val hs (.str _)⟩
    · exact p.elim
  · cases e : dx.items with
    | none => rw [e] at p; exact p.elim
    | some ds =>
      rw [e] at p
      obtain ⟨a, xs, rfl, ha, q⟩ := r.items e
      exact .inl (.inl ⟨a, xs, rfl, SqL.of ha, p.new hs (q.cut lo hi)⟩)
theorem d_slice {lo hi : Option Expr} {fl fh : Eo} (he : PE X e (T X.K W f)) (hl : PO X lo (TOs X.K W fl)) (hh : PO X hi (TOs X.K W fh)) : PE X (.Subscript e (.Slice lo hi none p2) pos) (T X.K W (sliceE f fl fh)) :=
  PE.imp (pe_slice sl_D he hl hh) fun σ H Q h => by
    obtain ⟨S0, H0, S, ρ, R, p⟩ := h
    refine ⟨S0, H0, S, ρ, R, ?_⟩
    unfold sliceE at p
    cases e : f ρ with
    | ok d =>
      rw [e] at p
      refine fun v S1 H1 e1 r1 => ⟨S0, H0, S1, ρ, R.ext e1, ?_⟩
      have p1 := p.ext e1
      cases el : fl ρ with
      | ok l =>
        simp only [bind_ok, el] at p1
        refine fun S2 H2 e2 => ⟨S0, H0, S2, ρ, (R.ext e1).ext e2, ?_⟩
        have p2 := p1.ext e2
        cases eh : fh ρ with
        | ok h =>
          simp only [bind_ok, eh] at p2
          exact fun S3 H3 e3 => sliceD_ok e3.sh ((r1.rr e1.sh).mono (e2.trans e3).ss (e2.trans e3).hh) (PostD.o (p2.ext e3))
        | err x => simp only [bind_ok, eh] at p2; exact p2
        | st => simp only [bind_ok, eh] at p2; exact p2
      | err x => simp only [bind_ok, el] at p1; exact p1
      | st => simp only [bind_ok, el] at p1; exact p1
    | err x => rw [e] at p; exact p
    | st => rw [e] at p; exact p
/-- xs[::-1] of a list -/
def revD (x : D) : Option D := x.items.map fun ds => .new ds.reverse
theorem d_rev {k : Nat} {p1 p2 p3 : Pos} (he : PE X e (T X.K W f)) : PE X (.Subscript e (.Slice none none (some (.UnaryOp .USub (.Constant (.int 1) k p1) p2)) p3) pos) (T X.K W (e1 revD f)) :=
  PE.imp (pe_revL he) fun σ H Q h => t_e1 (r := fun x H1 Q => ∃ a xs, x = .ref a ∧ SqL X.K H1 a xs ∧ ∀ p, H1 p = none → Q (.ref p) (upd H1 p (.lst xs.reverse))) (fun S H v dx Q hs r p => by
    unfold revD at p
    cases e : dx.items with
    | none => rw [e] at p; exact p.elim
    | some ds =>
      rw [e] at p
      obtain ⟨a, xs, rfl, ha, q⟩ := r.items e
      exact ⟨a, xs, rfl, SqL.of ha, p.new hs q.reverse⟩) h
end

/-! ### builtins with one argument, with two -/
theorem CallR.or {X : Cx} {f : Value} {r r' : List V → Hp → VK → Prop} (h : CallR X f r) (h' : CallR X f r') : CallR X f (fun xs H Q => r xs H Q ∨ r' xs H Q) := by
  intro pins s σ H xs us Q I rv q
  rcases q with q | q
  · exact h pins s σ H xs us Q I rv q
  · exact h' pins s σ H xs us Q I rv q
def ServesC1 (K : PySem.W.Frag) (g : D → Option D) (r : List V → Hp → VK → Prop) : Prop :=
  ∀ (S H : Hp) (v : V) (dx : D) (Q : VK), Same S H → Rr K S H v dx → PostO K S H (g dx) Q → r [v] H Q
def ServesC2 (K : PySem.W.Frag) (g : D → D → Option D) (r : List V → Hp → VK → Prop) : Prop :=
  ∀ (S H : Hp) (v w : V) (dx dy : D) (Q : VK), Same S H → Rr K S H v dx → Rr K S H w dy → PostO K S H (g dx dy) Q → r [v, w] H Q
section
variable {X : Cx} {W : WX} {a b e : Expr} {fa fb f : Ev} {pos p : Pos} {x : Str} {id Ty : String} {r : List V → Hp → VK → Prop} {g : D → Option D} {g2 : D → D → Option D}
theorem t_c1 {K : PySem.W.Frag} (hg : ServesC1 K g r) {σ : St} {H : Hp} {Q : VK} (h : T K W (e1 g f) σ H Q) : tCB r (tCons (T K W f) tNil) σ H Q := t_e1 (r := fun v H Q => r [v] H Q) hg h
theorem t_c2 {K : PySem.W.Frag} (hg : ServesC2 K g2 r) {σ : St} {H : Hp} {Q : VK} (h : T K W (e2 g2 fa fb) σ H Q) : tCB r (tCons (T K W fa) (tCons (T K W fb) tNil)) σ H Q := t_e2 (r := fun v w H Q => r [v, w] H Q) hg h
theorem d_callB1 (hc : CallR X (.builtin id) r) (hs : ServesC1 X.K g r) (hg : Gl X x) (hm : X.mg x = none) (hv : bootBuiltins x = some (.builtin id)) (ha : PE X a (T X.K W f))
    (h1 : starEach [a] X.env = (false, eval a X.env) :: starEach [] X.env := by rfl) (hn : x ≠ "__name__" := by decide) (hdb : (x == ("__debug__" : Str)) = false := by decide)
    (hpl : (backTo pos (starEach [] X.env)).any (·.1) = false := by rfl) : PE X (.Call (.Name x p) [a] [] pos) (T X.K W (e1 g f)) :=
  PE.imp (pe_callB hc hg hm hv (pa_cons ha pa_nil h1) hn hdb h1 hpl) fun _ _ _ h => t_c1 hs h
theorem d_callTy1 (hc : CallR X (.type Ty) r) (hs : ServesC1 X.K g r) (hg : Gl X x) (hm : X.mg x = none) (hv : bootBuiltins x = some (.type Ty)) (ha : PE X a (T X.K W f))
    (h1 : starEach [a] X.env = (false, eval a X.env) :: starEach [] X.env := by rfl) (hn : x ≠ "__name__" := by decide) (hdb : (x == ("__debug__" : Str)) = false := by decide)
    (hpl : (backTo pos (starEach [] X.env)).any (·.1) = false := by rfl) : PE X (.Call (.Name x p) [a] [] pos) (T X.K W (e1 g f)) :=
  PE.imp (pe_callTy hc hg hm hv (pa_cons ha pa_nil h1) hn hdb h1 hpl) fun _ _ _ h => t_c1 hs h
theorem d_callB2 (hc : CallR X (.builtin id) r) (hs : ServesC2 X.K g2 r) (hg : Gl X x) (hm : X.mg x = none) (hv : bootBuiltins x = some (.builtin id)) (ha : PE X a (T X.K W fa)) (hb : PE X b (T X.K W fb))
    (h1 : starEach [a, b] X.env = (false, eval a X.env) :: starEach [b] X.env := by rfl) (h2 : starEach [b] X.env = (false, eval b X.env) :: starEach [] X.env := by rfl) (hn : x ≠ "__name__" := by decide) (hdb : (x == ("__debug__" : Str)) = false := by decide)
    (hpl : (backTo pos (starEach [b] X.env)).any (·.1) = false := by rfl) : PE X (.Call (.Name x p) [a, b] [] pos) (T X.K W (e2 g2 fa fb)) :=
  PE.imp (pe_callB hc hg hm hv (pa_cons ha (pa_cons hb pa_nil h2) h1) hn hdb h1 hpl) fun _ _ _ h => t_c2 hs h
end
def lenD (x : D) : Option D := match x with
  | .tup ds => some (.int ds.length)
  | .frz ns => some (.int ns.length)
  | .str z => if z.length ≤ LINE then some (.int z.length) else none
  | x => x.items.map fun ds => .int ds.length
def intD (x : D) : Option D := match x with
  | .int i => some (.int i)
  | .bl b => some (.int (if b then 1 else 0))
  | _ => none
def absD (x : D) : Option D := match x with | .int i => some (.int (if i < 0 then -i else i)) | _ => none
def maxD (x y : D) : Option D := match x, y with | .int i, .int j => some (.int (if j > i then j else i)) | _, _ => none
def minD (x y : D) : Option D := match x, y with | .int i, .int j => some (.int (if j < i then j else i)) | _, _ => none
def listD (x : D) : Option D := match x with
  | .tup ds => some (.new ds)
  | .frz ns => some (.new (ns.map .int))
  | x => x.items.map .new
def tupleD (x : D) : Option D := match x with
  | .tup ds => some (.tup ds)
  | x => x.items.map .tup
def D.asInts : List D → Option (List Int)
  | [] => some []
  | .int i :: r => (D.asInts r).map (i :: ·)
  | _ :: _ => none
def D.asBls : List D → Option (List Bool)
  | [] => some []
  | .bl i :: r => (D.asBls r).map (i :: ·)
  | _ :: _ => none
theorem asInts_of : ∀ {ds : List D} {ns : List Int}, D.asInts ds = some ns → ds = ns.map .int
  | [], ns, h => by cases h; rfl
  | .int i :: r, ns, h => by
    rw [D.asInts] at h
    cases e : D.asInts r with
    | none => rw [e] at h; cases h
    | some ms => rw [e] at h; cases h; rw [asInts_of e]; rfl
  | .non :: _, _, h => by cases h
  | .bl _ :: _, _, h => by cases h
  | .str _ :: _, _, h => by cases h
  | .lst _ :: _, _, h => by cases h
  | .tup _ :: _, _, h => by cases h
  | .frz _ :: _, _, h => by cases h
  | .obj _ _ :: _, _, h => by cases h
  | .new _ :: _, _, h => by cases h
  | .bor _ :: _, _, h => by cases h
theorem asBls_of : ∀ {ds : List D} {ns : List Bool}, D.asBls ds = some ns → ds = ns.map .bl
  | [], ns, h => by cases h; rfl
  | .bl i :: r, ns, h => by
    rw [D.asBls] at h
    cases e : D.asBls r with
    | none => rw [e] at h; cases h
    | some ms => rw [e] at h; cases h; rw [asBls_of e]; rfl
  | .non :: _, _, h => by cases h
  | .int _ :: _, _, h => by cases h
  | .str _ :: _, _, h => by cases h
  | .lst _ :: _, _, h => by cases h
  | .tup _ :: _, _, h => by cases h
  | .frz _ :: _, _, h => by cases h
  | .obj _ _ :: _, _, h => by cases h
  | .new _ :: _, _, h => by cases h
  | .bor _ :: _, _, h => by cases h
@[simp] theorem asInts_map : ∀ (ns : List Int), D.asInts (ns.map .int) = some ns
  | [] => rfl
  | n :: r => by rw [List.map_cons, D.asInts, asInts_map r]; rfl
@[simp] theorem asBls_map : ∀ (ns : List Bool), D.asBls (ns.map .bl) = some ns
  | [] => rfl
  | n :: r => by rw [List.map_cons, D.asBls, asBls_map r]; rfl
def sumD (x : D) : Option D := x.items.bind fun ds => (D.asInts ds).map fun ns => .int ns.sum
def allD (x : D) : Option D := x.items.bind fun ds => (D.asBls ds).map fun bs => .bl (bs.all id)
def anyD (x : D) : Option D := x.items.bind fun ds => (D.asBls ds).map fun bs => .bl (bs.any id)
section
variable {X : Cx} {K : PySem.W.Frag}
theorem lenD_ok : ServesC1 K lenD (fun xs H Q => ∃ x n, xs = [x] ∧ LenV K x H n ∧ Q (.int n) H) := by
  intro S H v dx Q hs r p
  unfold lenD at p
  split at p
  · rename_i ds
    cases r with
    | tup h q => exact ⟨_, ds.length, rfl, .inr ⟨_, Same.seqT hs h, q.length.symm⟩, p.val hs (.int _)⟩
  · rename_i ns
    cases r with
    | frz h => exact ⟨_, ns.length, rfl, .inl ⟨_, hs.seq h, by rw [List.length_map]⟩, p.val hs (.int _)⟩
  · rename_i z
    cases r
    split at p
    · rename_i hl
      exact ⟨_, z.length, rfl, ⟨by rw [line_eq]; exact hl, rfl⟩, p.val hs (.int _)⟩
    · exact p.elim
  · cases e : dx.items with
    | none => rw [e] at p; exact p.elim
    | some ds =>
      rw [e] at p
      obtain ⟨a, xs, rfl, ha, q⟩ := r.items e
      exact ⟨_, ds.length, rfl, .inl ⟨_, SqL.of ha, q.length.symm⟩, p.val hs (.int _)⟩
theorem intD_ok : ServesC1 K intD (fun xs H Q => (∃ i, xs = [.int i] ∧ Q (.int i) H) ∨ ∃ k, xs = [.bl k] ∧ Q (.int (if k then 1 else 0)) H) := by
  intro S H v dx Q hs r p
  unfold intD at p
  split at p
  · cases r; exact .inl ⟨_, rfl, p.val hs (.int _)⟩
  · cases r; exact .inr ⟨_, rfl, p.val hs (.int _)⟩
  · exact p.elim
theorem absD_ok : ServesC1 K absD (fun xs H Q => ∃ i, xs = [.int i] ∧ Q (.int (if i < 0 then -i else i)) H) := by
  intro S H v dx Q hs r p
  unfold absD at p
  split at p
  · cases r; exact ⟨_, rfl, p.val hs (.int _)⟩
  · exact p.elim
theorem maxD_ok : ServesC2 K maxD (fun xs H Q => ∃ i j, xs = [.int i, .int j] ∧ Q (.int (if j > i then j else i)) H) := by
  intro S H v w dx dy Q hs r1 r2 p
  unfold maxD at p
  split at p
  · cases r1; cases r2; exact ⟨_, _, rfl, p.val hs (.int _)⟩
  · exact p.elim
theorem minD_ok : ServesC2 K minD (fun xs H Q => ∃ i j, xs = [.int i, .int j] ∧ Q (.int (if j < i then j else i)) H) := by
  intro S H v w dx dy Q hs r1 r2 p
  unfold minD at p
  split at p
  · cases r1; cases r2; exact ⟨_, _, rfl, p.val hs (.int _)⟩
  · exact p.elim
theorem listD_ok : ServesC1 K listD (fun xs H Q => ∃ p ys, xs = [.ref p] ∧ (SqL K H p ys ∨ SqT K H p ys) ∧ ∀ l, H l = none → Q (.ref l) (upd H l (.lst ys))) := by
  intro S H v dx Q hs r p
  unfold listD at p
  split at p
  · cases r with
    | tup h q => exact ⟨_, _, rfl, .inr (Same.seqT hs h), p.new hs q⟩
  · cases r with
    | frz h => exact ⟨_, _, rfl, .inl (hs.seq h), p.new hs (RpAll.of_ints _)⟩
  · cases e : dx.items with
    | none => rw [e] at p; exact p.elim
    | some ds =>
      rw [e] at p
      obtain ⟨a, xs, rfl, ha, q⟩ := r.items e
      exact ⟨_, _, rfl, .inl (SqL.of ha), p.new hs q⟩
theorem tupleD_ok : ServesC1 K tupleD (fun xs H Q => ∃ p ys, xs = [.ref p] ∧ ((SqL K H p ys ∧ ∀ l, H l = none → Q (.ref l) (upd H l (.tup ys))) ∨ (SqT K H p ys ∧ Q (.ref p) H))) := by
  intro S H v dx Q hs r p
  unfold tupleD at p
  split at p
  · cases r with
    | tup h q => exact ⟨_, _, rfl, .inr ⟨Same.seqT hs h, p.val hs (.tup h q)⟩⟩
  · cases e : dx.items with
    | none => rw [e] at p; exact p.elim
    | some ds =>
      rw [e] at p
      obtain ⟨a, xs, rfl, ha, q⟩ := r.items e
      exact ⟨_, _, rfl, .inl ⟨SqL.of ha, p.tup hs q⟩⟩
theorem sumD_ok : ServesC1 K sumD (rSum K) := by
  intro S H v dx Q hs r p
  unfold sumD at p
  cases e : dx.items with
  | none => rw [e] at p; exact p.elim
  | some ds =>
    rw [e] at p
    obtain ⟨a, xs, rfl, ha, q⟩ := r.items e
    simp only [Option.bind_some] at p
    cases e2 : D.asInts ds with
    | none => rw [e2] at p; exact p.elim
    | some ns =>
      rw [e2] at p
      rw [asInts_of e2] at q
      rw [q.ints] at ha
      exact ⟨a, ns, rfl, SqL.of ha, p.val hs (.int _)⟩
theorem allD_ok : ServesC1 K allD (rAll K) := by
  intro S H v dx Q hs r p
  unfold allD at p
  cases e : dx.items with
  | none => rw [e] at p; exact p.elim
  | some ds =>
    rw [e] at p
    obtain ⟨a, xs, rfl, ha, q⟩ := r.items e
    simp only [Option.bind_some] at p
    cases e2 : D.asBls ds with
    | none => rw [e2] at p; exact p.elim
    | some ns =>
      rw [e2] at p
      rw [asBls_of e2] at q
      rw [q.bls] at ha
      exact ⟨a, ns, rfl, SqL.of ha, p.val hs (.bl _)⟩
theorem anyD_ok : ServesC1 K anyD (rAny K) := by
  intro S H v dx Q hs r p
  unfold anyD at p
  cases e : dx.items with
  | none => rw [e] at p; exact p.elim
  | some ds =>
    rw [e] at p
    obtain ⟨a, xs, rfl, ha, q⟩ := r.items e
    simp only [Option.bind_some] at p
    cases e2 : D.asBls ds with
    | none => rw [e2] at p; exact p.elim
    | some ns =>
      rw [e2] at p
      rw [asBls_of e2] at q
      rw [q.bls] at ha
      exact ⟨a, ns, rfl, SqL.of ha, p.val hs (.bl _)⟩
end
section
variable {X : Cx} {W : WX} {a b e : Expr} {fa fb f : Ev} {pos p : Pos}
theorem d_len (hm : X.mg "len" = none) (ha : PE X a (T X.K W f)) (hg : Gl X "len" := by rfl)
    (h1 : starEach [a] X.env = (false, eval a X.env) :: starEach [] X.env := by rfl) (hpl : (backTo pos (starEach [] X.env)).any (·.1) = false := by rfl) : PE X (.Call (.Name "len" p) [a] [] pos) (T X.K W (e1 lenD f)) :=
  d_callB1 call_len lenD_ok hg hm PySem.boot_len ha h1 (by decide) (by decide) hpl
theorem d_intc (hm : X.mg "int" = none) (ha : PE X a (T X.K W f)) (hg : Gl X "int" := by rfl)
    (h1 : starEach [a] X.env = (false, eval a X.env) :: starEach [] X.env := by rfl) (hpl : (backTo pos (starEach [] X.env)).any (·.1) = false := by rfl) : PE X (.Call (.Name "int" p) [a] [] pos) (T X.K W (e1 intD f)) :=
  d_callTy1 call_int1 intD_ok hg hm (by decide +kernel) ha h1 (by decide) (by decide) hpl
theorem d_abs (hm : X.mg "abs" = none) (ha : PE X a (T X.K W f)) (hg : Gl X "abs" := by rfl)
    (h1 : starEach [a] X.env = (false, eval a X.env) :: starEach [] X.env := by rfl) (hpl : (backTo pos (starEach [] X.env)).any (·.1) = false := by rfl) : PE X (.Call (.Name "abs" p) [a] [] pos) (T X.K W (e1 absD f)) :=
  d_callB1 call_abs absD_ok hg hm (by decide +kernel) ha h1 (by decide) (by decide) hpl
theorem d_listc (hm : X.mg "list" = none) (ha : PE X a (T X.K W f)) (hg : Gl X "list" := by rfl)
    (h1 : starEach [a] X.env = (false, eval a X.env) :: starEach [] X.env := by rfl) (hpl : (backTo pos (starEach [] X.env)).any (·.1) = false := by rfl) : PE X (.Call (.Name "list" p) [a] [] pos) (T X.K W (e1 listD f)) :=
  d_callTy1 call_list_of listD_ok hg hm (by decide +kernel) ha h1 (by decide) (by decide) hpl
theorem d_tuplec (hm : X.mg "tuple" = none) (ha : PE X a (T X.K W f)) (hg : Gl X "tuple" := by rfl)
    (h1 : starEach [a] X.env = (false, eval a X.env) :: starEach [] X.env := by rfl) (hpl : (backTo pos (starEach [] X.env)).any (·.1) = false := by rfl) : PE X (.Call (.Name "tuple" p) [a] [] pos) (T X.K W (e1 tupleD f)) :=
  d_callTy1 call_tuple_of tupleD_ok hg hm (by decide +kernel) ha h1 (by decide) (by decide) hpl
theorem d_sum (hc : X.calm = true) (hm : X.mg "sum" = none) (ha : PE X a (T X.K W f)) (hg : Gl X "sum" := by rfl)
    (h1 : starEach [a] X.env = (false, eval a X.env) :: starEach [] X.env := by rfl) (hpl : (backTo pos (starEach [] X.env)).any (·.1) = false := by rfl) : PE X (.Call (.Name "sum" p) [a] [] pos) (T X.K W (e1 sumD f)) :=
  d_callB1 (cr_sum hc) sumD_ok hg hm (by decide +kernel) ha h1 (by decide) (by decide) hpl
theorem d_all (hc : X.calm = true) (hm : X.mg "all" = none) (ha : PE X a (T X.K W f)) (hg : Gl X "all" := by rfl)
    (h1 : starEach [a] X.env = (false, eval a X.env) :: starEach [] X.env := by rfl) (hpl : (backTo pos (starEach [] X.env)).any (·.1) = false := by rfl) : PE X (.Call (.Name "all" p) [a] [] pos) (T X.K W (e1 allD f)) :=
  d_callB1 (cr_all hc) allD_ok hg hm (by decide +kernel) ha h1 (by decide) (by decide) hpl
theorem d_any (hc : X.calm = true) (hm : X.mg "any" = none) (ha : PE X a (T X.K W f)) (hg : Gl X "any" := by rfl)
    (h1 : starEach [a] X.env = (false, eval a X.env) :: starEach [] X.env := by rfl) (hpl : (backTo pos (starEach [] X.env)).any (·.1) = false := by rfl) : PE X (.Call (.Name "any" p) [a] [] pos) (T X.K W (e1 anyD f)) :=
  d_callB1 (cr_any hc) anyD_ok hg hm (by decide +kernel) ha h1 (by decide) (by decide) hpl
theorem d_max2 (hc : X.calm = true) (hm : X.mg "max" = none) (ha : PE X a (T X.K W fa)) (hb : PE X b (T X.K W fb)) (hg : Gl X "max" := by rfl)
    (h1 : starEach [a, b] X.env = (false, eval a X.env) :: starEach [b] X.env := by rfl) (h2 : starEach [b] X.env = (false, eval b X.env) :: starEach [] X.env := by rfl) (hpl : (backTo pos (starEach [b] X.env)).any (·.1) = false := by rfl) :
    PE X (.Call (.Name "max" p) [a, b] [] pos) (T X.K W (e2 maxD fa fb)) :=
  d_callB2 (call_max2 hc) maxD_ok hg hm (by decide +kernel) ha hb h1 h2 (by decide) (by decide) hpl
theorem d_min2 (hc : X.calm = true) (hm : X.mg "min" = none) (ha : PE X a (T X.K W fa)) (hb : PE X b (T X.K W fb)) (hg : Gl X "min" := by rfl)
    (h1 : starEach [a, b] X.env = (false, eval a X.env) :: starEach [b] X.env := by rfl) (h2 : starEach [b] X.env = (false, eval b X.env) :: starEach [] X.env := by rfl) (hpl : (backTo pos (starEach [b] X.env)).any (·.1) = false := by rfl) :
    PE X (.Call (.Name "min" p) [a, b] [] pos) (T X.K W (e2 minD fa fb)) :=
  d_callB2 (call_min2 hc) minD_ok hg hm (by decide +kernel) ha hb h1 h2 (by decide) (by decide) hpl
end

/-! ### tests -/
abbrev Eb := Rho → Res Bool
def truD (x : D) : Option Bool := match x with
  | .non => some false
  | .bl b => some b
  | .int i => some (i != 0)
  | .str z => if z.length ≤ LINE then some ((z.length : Int) != 0) else none
  | .tup ds => some (!ds.isEmpty)
  | x => x.items.map fun ds => !ds.isEmpty
def tstE (f : Ev) : Eb := fun ρ => (f ρ).bind fun x => ofO (truD x)
def blO : D → Option Bool | .bl b => some b | _ => none
def tst0 (f : Ev) : Eb := fun ρ => (f ρ).bind fun x => ofO (blO x)
def notB (f : Eb) : Eb := fun ρ => (f ρ).bind fun b => .ok (!b)
def andB (f g : Eb) : Eb := fun ρ => (f ρ).bind fun b => if b = true then g ρ else .ok false
def orB (f g : Eb) : Eb := fun ρ => (f ρ).bind fun b => if b = true then .ok true else g ρ
def andE (f : Ev) (g : Ev) : Ev := fun ρ => (f ρ).bind fun x => (ofO (blO x)).bind fun b => if b = true then g ρ else .ok (.bl false)
def orE (f : Ev) (g : Ev) : Ev := fun ρ => (f ρ).bind fun x => (ofO (blO x)).bind fun b => if b = true then .ok (.bl true) else g ρ
def notE (f : Ev) : Ev := fun ρ => (f ρ).bind fun x => (ofO (truD x)).bind fun b => .ok (.bl (!b))
def ifE (c : Eb) (f g : Ev) : Ev := fun ρ => (c ρ).bind fun b => if b = true then f ρ else g ρ
theorem truD_ok {K : PySem.W.Frag} {S H : Hp} {v : V} {d : D} {k : Bool} (hs : Same S H) (r : Rr K S H v d) (h : truD d = some k) : TruV K v H k := by
  unfold truD at h
  split at h
  · cases r; cases h; rfl
  · cases r; cases h; rfl
  · cases r; cases h; rfl
  · cases r
    split at h
    · rename_i hl
      cases h
      exact ⟨by rw [line_eq]; exact hl, rfl⟩
    · cases h
  · cases r with
    | tup h1 q =>
      cases h
      rename_i ds
      refine .inr (.inl ⟨_, Same.seqT hs h1, ?_⟩)
      cases q <;> rfl
  · cases e : d.items with
    | none => rw [e] at h; cases h
    | some ds =>
      rw [e] at h
      cases h
      obtain ⟨a, xs, rfl, ha, q⟩ := r.items e
      refine .inl ⟨_, SqL.of ha, ?_⟩
      cases q <;> rfl
section
variable {X : Cx} {W : WX} {a b e : Expr} {fa fb f : Ev} {g h : Eb} {rest : List Expr} {pos : Pos}
theorem t_val (ha : PE X a (T X.K W f)) (he : ∀ whole, isTrue a X.env whole = (do let v ← whole; standAt a.pos; holding [v] (truthy v)) := by intro _; rfl) : PT X a (TB X.K W (tstE f)) :=
  PT.imp (pt_truth ha he) fun σ H Q h => by
    obtain ⟨S0, H0, S, ρ, R, p⟩ := h
    refine ⟨S0, H0, S, ρ, R, ?_⟩
    unfold tstE at p
    cases e : f ρ with
    | ok d =>
      rw [e] at p
      simp only [bind_ok] at p
      cases e2 : truD d with
      | none => rw [e2] at p; exact p.elim
      | some k =>
        rw [e2] at p
        exact fun v S' H' ex r => ⟨k, truD_ok ex.sh (r.rr ex.sh) e2, p S' H' ex⟩
    | err x => rw [e] at p; exact p
    | st => rw [e] at p; exact p
theorem t_cmp {op : CmpOp} {r : R2} {g : D → D → Option D} (ho : OpR X (compareOp op) r) (hg : Serves2 X.K g r) (hm : behindInMarks op b = false) (ha : PE X a (T X.K W fa)) (hb : PE X b (T X.K W fb)) : PT X (.Compare a [op] [b] pos) (TB X.K W (tst0 (e2 g fa fb))) :=
  PT.imp (pt_cmpR ho ha hb hm) fun σ H Q h => by
    obtain ⟨S0, H0, S, ρ, R, p⟩ := h
    show tOp r (T X.K W fa) (T X.K W fb) σ H fun x H' => ∃ k, x = .bl k ∧ Q k H'
    refine t_e2 hg ⟨S0, H0, S, ρ, R, ?_⟩
    unfold tst0 at p
    cases e : e2 g fa fb ρ with
    | ok d =>
      rw [e] at p
      simp only [bind_ok] at p
      cases d with
      | bl k => exact fun v S' H' ex r => by cases r; exact ⟨k, rfl, p S' H' ex⟩
      | _ => exact p.elim
    | err x => rw [e] at p; exact p
    | st => rw [e] at p; exact p
theorem t_eq (hu : X.A.units + 64 < cLine) (ha : PE X a (T X.K W fa)) (hb : PE X b (T X.K W fb)) : PT X (.Compare a [.Eq] [b] pos) (TB X.K W (tst0 (e2 eqD fa fb))) := t_cmp (op_eqD hu) eqD_ok (nomark _) ha hb
theorem t_ne (hu : X.A.units + 64 < cLine) (ha : PE X a (T X.K W fa)) (hb : PE X b (T X.K W fb)) : PT X (.Compare a [.NotEq] [b] pos) (TB X.K W (tst0 (e2 neD fa fb))) := t_cmp (op_neD hu) neD_ok (nomark _) ha hb
theorem t_lt (ha : PE X a (T X.K W fa)) (hb : PE X b (T X.K W fb)) : PT X (.Compare a [.Lt] [b] pos) (TB X.K W (tst0 (e2 ltD fa fb))) := t_cmp op_lt ltD_ok (nomark _) ha hb
theorem t_le (ha : PE X a (T X.K W fa)) (hb : PE X b (T X.K W fb)) : PT X (.Compare a [.LtE] [b] pos) (TB X.K W (tst0 (e2 leD fa fb))) := t_cmp op_le leD_ok (nomark _) ha hb
theorem t_gt (ha : PE X a (T X.K W fa)) (hb : PE X b (T X.K W fb)) : PT X (.Compare a [.Gt] [b] pos) (TB X.K W (tst0 (e2 gtD fa fb))) := t_cmp op_gt gtD_ok (nomark _) ha hb
theorem t_ge (ha : PE X a (T X.K W fa)) (hb : PE X b (T X.K W fb)) : PT X (.Compare a [.GtE] [b] pos) (TB X.K W (tst0 (e2 geD fa fb))) := t_cmp op_ge geD_ok (nomark _) ha hb
theorem t_is (ha : PE X a (T X.K W fa)) (hb : PE X b (T X.K W fb)) : PT X (.Compare a [.Is] [b] pos) (TB X.K W (tst0 (e2 isD fa fb))) := t_cmp op_isD isD_ok (nomark _) ha hb
theorem t_notIs (ha : PE X a (T X.K W fa)) (hb : PE X b (T X.K W fb)) : PT X (.Compare a [.IsNot] [b] pos) (TB X.K W (tst0 (e2 notIsD fa fb))) := t_cmp op_notIsD notIsD_ok (nomark _) ha hb
theorem t_not (ha : PT X a (TB X.K W g)) : PT X (.UnaryOp .Not a pos) (TB X.K W (notB g)) := PT.imp (pt_not ha) fun σ H Q h => by
  obtain ⟨S0, H0, S, ρ, R, p⟩ := h
  refine ⟨S0, H0, S, ρ, R, ?_⟩
  unfold notB at p
  cases e : g ρ with
  | ok b => rw [e] at p; exact p
  | err x => rw [e] at p; exact p
  | st => rw [e] at p; exact p
theorem w_and1 (ha : PT X a (TB X.K W g)) : PW X (.BoolOp .And [a] pos) (TB X.K W g) := pw_and1 ha
theorem w_or1 (ha : PT X a (TB X.K W g)) : PW X (.BoolOp .Or [a] pos) (TB X.K W g) := pw_or1 ha
theorem w_and (ha : PT X a (TB X.K W g)) (hb : PW X (.BoolOp .And (b :: rest) pos) (TB X.K W h)) : PW X (.BoolOp .And (a :: b :: rest) pos) (TB X.K W (andB g h)) := PW.imp (pw_and ha hb) fun σ H Q q => by
  obtain ⟨S0, H0, S, ρ, R, p⟩ := q
  refine ⟨S0, H0, S, ρ, R, ?_⟩
  unfold andB at p
  cases e : g ρ with
  | ok b =>
    rw [e] at p
    cases b with
    | true => exact fun S' H' ex => ⟨S0, H0, S', ρ, R.ext ex, p.ext ex⟩
    | false => exact fun S' H' ex => p S' H' ex
  | err x => rw [e] at p; exact p
  | st => rw [e] at p; exact p
theorem w_or (ha : PT X a (TB X.K W g)) (hb : PW X (.BoolOp .Or (b :: rest) pos) (TB X.K W h)) : PW X (.BoolOp .Or (a :: b :: rest) pos) (TB X.K W (orB g h)) := PW.imp (pw_or ha hb) fun σ H Q q => by
  obtain ⟨S0, H0, S, ρ, R, p⟩ := q
  refine ⟨S0, H0, S, ρ, R, ?_⟩
  unfold orB at p
  cases e : g ρ with
  | ok b =>
    rw [e] at p
    cases b with
    | true => exact fun S' H' ex => p S' H' ex
    | false => exact fun S' H' ex => ⟨S0, H0, S', ρ, R.ext ex, p.ext ex⟩
  | err x => rw [e] at p; exact p
  | st => rw [e] at p; exact p
theorem t_w (h : PW X e (TB X.K W g)) : PT X e (TB X.K W g) := h.pt
theorem d_one {op} (h : PE X a (T X.K W f)) : PE X (.BoolOp op [a] pos) (T X.K W f) := pe_one h
theorem d_and (ha : PE X a (T X.K W fa)) (hb : PE X (.BoolOp .And (b :: rest) pos) (T X.K W fb)) : PE X (.BoolOp .And (a :: b :: rest) pos) (T X.K W (andE fa fb)) := PE.imp (pe_and ha hb) fun σ H Q q => by
  obtain ⟨S0, H0, S, ρ, R, p⟩ := q
  refine ⟨S0, H0, S, ρ, R, ?_⟩
  unfold andE at p
  cases e : fa ρ with
  | ok d =>
    rw [e] at p
    cases d with
    | bl b =>
      refine fun v S' H' ex r => ?_
      cases r
      refine ⟨b, rfl, ?_⟩
      cases b with
      | true => exact ⟨S0, H0, S', ρ, R.ext ex, p.ext ex⟩
      | false => exact p _ S' H' ex (.bl false)
    | _ => exact p.elim
  | err x => rw [e] at p; exact p
  | st => rw [e] at p; exact p
theorem d_or (ha : PE X a (T X.K W fa)) (hb : PE X (.BoolOp .Or (b :: rest) pos) (T X.K W fb)) : PE X (.BoolOp .Or (a :: b :: rest) pos) (T X.K W (orE fa fb)) := PE.imp (pe_or ha hb) fun σ H Q q => by
  obtain ⟨S0, H0, S, ρ, R, p⟩ := q
  refine ⟨S0, H0, S, ρ, R, ?_⟩
  unfold orE at p
  cases e : fa ρ with
  | ok d =>
    rw [e] at p
    cases d with
    | bl b =>
      refine fun v S' H' ex r => ?_
      cases r
      refine ⟨b, rfl, ?_⟩
      cases b with
      | true => exact p _ S' H' ex (.bl true)
      | false => exact ⟨S0, H0, S', ρ, R.ext ex, p.ext ex⟩
    | _ => exact p.elim
  | err x => rw [e] at p; exact p
  | st => rw [e] at p; exact p
theorem d_not (ha : PE X a (T X.K W f)) : PE X (.UnaryOp .Not a pos) (T X.K W (notE f)) := PE.imp (pe_notT ha) fun σ H Q h => by
  obtain ⟨S0, H0, S, ρ, R, p⟩ := h
  refine ⟨S0, H0, S, ρ, R, ?_⟩
  unfold notE at p
  cases e : f ρ with
  | ok d =>
    rw [e] at p
    simp only [bind_ok] at p
    cases e2 : truD d with
    | none => rw [e2] at p; exact p.elim
    | some k =>
      rw [e2] at p
      exact fun v S' H' ex r => ⟨k, truD_ok ex.sh (r.rr ex.sh) e2, p _ S' H' ex (.bl _)⟩
  | err x => rw [e] at p; exact p
  | st => rw [e] at p; exact p
theorem d_if {c : Expr} (hc : PT X c (TB X.K W g)) (ha : PE X a (T X.K W fa)) (hb : PE X b (T X.K W fb)) : PE X (.IfExp c a b pos) (T X.K W (ifE g fa fb)) := PE.imp (pe_ifExp hc ha hb) fun σ H Q h => by
  obtain ⟨S0, H0, S, ρ, R, p⟩ := h
  refine ⟨S0, H0, S, ρ, R, ?_⟩
  unfold ifE at p
  cases e : g ρ with
  | ok b =>
    rw [e] at p
    cases b with
    | true => exact fun S' H' ex => ⟨S0, H0, S', ρ, R.ext ex, p.ext ex⟩
    | false => exact fun S' H' ex => ⟨S0, H0, S', ρ, R.ext ex, p.ext ex⟩
  | err x => rw [e] at p; exact p
  | st => rw [e] at p; exact p
end
end DL

namespace DL
open PySem L2

/-! ### statements -/
inductive Out where
  | nx (ρ : Rho) | rt (d : D) | bk (ρ : Rho) | ct (ρ : Rho) | er (x : Ex) (ρ : Rho) | st
abbrev Es := Rho → Out
def PostS (K : PySem.W.Frag) (W : WX) (S0 H0 : Hp) (D : Ends) : Out → Prop
  | .nx ρ => ∀ σ S H, Rel K S0 H0 S H σ ρ → D.nx σ H
  | .bk ρ => ∀ σ S H, Rel K S0 H0 S H σ ρ → D.bk σ H
  | .ct ρ => ∀ σ S H, Rel K S0 H0 S H σ ρ → D.ct σ H
  | .rt d => ∀ v S H, Ext S0 H0 S H → Rv K H0 S H v d → D.rt v H
  | .er x ρ => ∀ dd σ S H, Rel K S0 H0 S H σ ρ → XAt x dd H → W x.cls dd σ H
  | .st => False
def TSt (K : PySem.W.Frag) (W : WX) (f : Es) : TS := fun D σ H => ∃ S0 H0 S ρ, Rel K S0 H0 S H σ ρ ∧ PostS K W S0 H0 D (f ρ)
/-- an expression's result, used by a statement -/
def Res.then (r : Res D) (ρ : Rho) (g : D → Out) : Out := match r with
  | .ok d => g d
  | .err x => .er x ρ
  | .st => .st
@[simp] theorem then_ok (d : D) (ρ : Rho) (g : D → Out) : (Res.ok d).then ρ g = g d := rfl
@[simp] theorem then_err (x : Ex) (ρ : Rho) (g : D → Out) : (Res.err x : Res D).then ρ g = .er x ρ := rfl
@[simp] theorem then_st (ρ : Rho) (g : D → Out) : (Res.st : Res D).then ρ g = .st := rfl
section
variable {K : PySem.W.Frag} {W : WX} {S0 H0 S H : Hp} {σ : St} {ρ : Rho} {D0 : Ends}
theorem PostX.of (R : Rel K S0 H0 S H σ ρ) {x : Ex} (p : PostS K W S0 H0 D0 (.er x ρ)) : PostX W S H σ x := fun dd S' H' e h => p dd σ S' H' (R.ext e) h
/-- an expression whose result goes on by g -/
theorem t_then {f : Ev} {g : D → Out} {Q : VK} (R : Rel K S0 H0 S H σ ρ) (p : PostS K W S0 H0 D0 ((f ρ).then ρ g))
    (hg : ∀ d v S' H', Ext S H S' H' → Rel K S0 H0 S' H' σ ρ → Rv K H S' H' v d → PostS K W S0 H0 D0 (g d) → Q v H') : T K W f σ H Q := by
  refine ⟨S0, H0, S, ρ, R, ?_⟩
  cases e : f ρ with
  | ok d => rw [e] at p; exact fun v S' H' ex r => hg d v S' H' ex (R.ext ex) r p
  | err x => rw [e] at p; exact PostX.of R p
  | st => rw [e] at p; exact p.elim
theorem t_thenS {f : Ev} {g : D → Out} {Q : VK} (R : Rel K S0 H0 S H σ ρ) (p : PostS K W S0 H0 D0 ((stE f ρ).then ρ g))
    (hg : ∀ d v S' H', Ext S H S' H' → Rel K S0 H0 S' H' σ ρ → Rp K S' v d → PostS K W S0 H0 D0 (g d) → Q v H') : T K W f σ H Q := by
  refine t_stE ⟨S0, H0, S, ρ, R, ?_⟩
  cases e : stE f ρ with
  | ok d =>
    rw [e] at p
    obtain ⟨d0, _, hd⟩ := stE_ok e
    exact fun v S' H' ex r => hg d v S' H' ex (R.ext ex) (settle_rp hd r) p
  | err x => rw [e] at p; exact PostX.of R p
  | st => rw [e] at p; exact p.elim
end

def skipS : Es := fun ρ => .nx ρ
def seqS (f g : Es) : Es := fun ρ => match f ρ with
  | .nx ρ' => g ρ'
  | o => o
def asgS (i : Nat) (f : Ev) : Es := fun ρ => (stE f ρ).then ρ fun d => .nx (ρ.set i (.v d))
def ownS (i : Nat) (f : Ev) : Es := fun ρ => (f ρ).then ρ fun d => match d with
  | .new ds => .nx (ρ.set i (.own ds))
  | _ => .st
def dropS (f : Ev) : Es := fun ρ => (f ρ).then ρ fun _ => .nx ρ
def retS (f : Ev) : Es := fun ρ => (stE f ρ).then ρ fun d => .rt d
def retN : Es := fun _ => .rt .non
def retOwn (i : Nat) : Es := fun ρ => match ρ[i]? with
  | some (.own ds) => .rt (.lst ds)
  | _ => .st
/-- what is handed back, a list that was just made as such -/
def rtF (d : D) : Out := match d with
  | .bor _ => .st
  | d => .rt d
def retF (f : Ev) : Es := fun ρ => (f ρ).then ρ rtF
def retOwnN (i : Nat) : Es := fun ρ => match ρ[i]? with
  | some (.own ds) => .rt (.new ds)
  | _ => .st
def ifS (c : Eb) (f g : Es) : Es := fun ρ => match c ρ with
  | .ok b => if b = true then f ρ else g ρ
  | .err x => .er x ρ
  | .st => .st
def brkS : Es := fun ρ => .bk ρ
def cntS : Es := fun ρ => .ct ρ
def setAll : List Nat → List D → Rho → Option Rho
  | [], [], ρ => some ρ
  | i :: is, d :: ds, ρ => setAll is ds (ρ.set i (.v d))
  | _, _, _ => none
def unpD : D → Option (List D)
  | .tup ds => some ds
  | _ => none
def unpS (is : List Nat) (f : Ev) : Es := fun ρ => (stE f ρ).then ρ fun d => match (unpD d).bind fun ds => setAll is ds ρ with
  | some ρ' => .nx ρ'
  | none => .st
def par2S (i j : Nat) (fs : Ea) : Es := fun ρ => match fs ρ with
  | .ok [a, b] => .nx ((ρ.set i (.v a)).set j (.v b))
  | .err x => .er x ρ
  | _ => .st
def frzS (i : Nat) (f : Es) : Es := fun ρ => match ρ[i]? with
  | some (.own ds) => f (ρ.set i (.v (.lst ds)))
  | _ => f ρ
def appS (i : Nat) (f : Ev) : Es := fun ρ => match ρ[i]? with
  | some (.own ds) => (stE f ρ).then ρ fun d => if ds.length < LINE then .nx (ρ.set i (.own (ds ++ [d]))) else .st
  | _ => .st
def setS (i : Nat) (fk fe : Ev) : Es := fun ρ => match ρ[i]? with
  | some (.own ds) => (stE fe ρ).then ρ fun d => (fk ρ).then ρ fun k => (match k with
    | .int k => (match ixN ds.length k with
      | some j => .nx (ρ.set i (.own (ds.set j d)))
      | none => .st)
    | _ => .st)
  | _ => .st
def popS (i : Nat) : Es := fun ρ => match ρ[i]? with
  | some (.own ds) => if ds.isEmpty then .st else .nx (ρ.set i (.own ds.dropLast))
  | _ => .st
def clrS (i : Nat) : Es := fun ρ => match ρ[i]? with
  | some (.own ds) => .nx (ρ.set i (.own []))
  | _ => .st
def augS (i : Nat) (f : Ev) : Es := fun ρ => match ρ[i]? with
  | some (.v (.int a)) => (f ρ).then ρ fun d => (match d with
    | .int b => .nx (ρ.set i (.v (.int (a + b))))
    | _ => .st)
  | _ => .st
section
variable {X : Cx} {W : WX} {a b e : Expr} {fa fb f : Ev} {fs : Ea} {g h : Es} {c : Eb} {st : Stmt} {sts : List Stmt} {pos : Pos}
theorem s_one (h1 : PS X st (TSt X.K W g)) : PSs X [st] (TSt X.K W g) := pss_one h1
theorem s_cons (h1 : PS X st (TSt X.K W g)) (h2 : PSs X sts (TSt X.K W h)) : PSs X (st :: sts) (TSt X.K W (seqS g h)) := PSs.imp (pss_cons h1 h2) fun D σ H q => by
  obtain ⟨S0, H0, S, ρ, R, p⟩ := q
  refine ⟨S0, H0, S, ρ, R, ?_⟩
  unfold seqS at p
  cases e : g ρ with
  | nx ρ' => rw [e] at p; exact fun σ' S' H' R' => ⟨S0, H0, S', ρ', R', p⟩
  | rt d => rw [e] at p; exact p
  | bk ρ' => rw [e] at p; exact p
  | ct ρ' => rw [e] at p; exact p
  | er x ρ' => rw [e] at p; exact p
  | st => rw [e] at p; exact p
theorem s_nil : PSs X [] (TSt X.K W skipS) := PSs.imp pss_nil fun D σ H q => by
  obtain ⟨S0, H0, S, ρ, R, p⟩ := q
  exact p σ S H R
theorem s_pass : PS X (.Pass pos) (TSt X.K W skipS) := PS.imp ps_pass fun D σ H q => by
  obtain ⟨S0, H0, S, ρ, R, p⟩ := q
  exact p σ S H R
theorem s_brk : PS X (.Break pos) (TSt X.K W brkS) := PS.imp ps_break fun D σ H q => by
  obtain ⟨S0, H0, S, ρ, R, p⟩ := q
  exact p σ S H R
theorem s_cnt : PS X (.Continue pos) (TSt X.K W cntS) := PS.imp ps_continue fun D σ H q => by
  obtain ⟨S0, H0, S, ρ, R, p⟩ := q
  exact p σ S H R
theorem s_if {c' : Expr} {a b : List Stmt} (hc : PT X c' (TB X.K W c)) (ha : PSs X a (TSt X.K W g)) (hb : PSs X b (TSt X.K W h)) : PS X (.If c' a b pos) (TSt X.K W (ifS c g h)) := PS.imp (ps_if hc ha hb) fun D σ H q => by
  obtain ⟨S0, H0, S, ρ, R, p⟩ := q
  refine ⟨S0, H0, S, ρ, R, ?_⟩
  unfold ifS at p
  cases e : c ρ with
  | ok b =>
    rw [e] at p
    cases b with
    | true => exact fun S' H' ex => ⟨S0, H0, S', ρ, R.ext ex, p⟩
    | false => exact fun S' H' ex => ⟨S0, H0, S', ρ, R.ext ex, p⟩
  | err x => rw [e] at p; exact PostX.of R p
  | st => rw [e] at p; exact p.elim
theorem s_ret (ha : PE X a (T X.K W f)) : PS X (.Return (some a) pos) (TSt X.K W (retS f)) := PS.imp (ps_ret ha) fun D σ H q => by
  obtain ⟨S0, H0, S, ρ, R, p⟩ := q
  exact t_thenS R p fun d v S' H' ex R' r p => p v S' H' R'.ex (rp_new r)
theorem s_retF (ha : PE X a (T X.K W f)) : PS X (.Return (some a) pos) (TSt X.K W (retF f)) := PS.imp (ps_ret ha) fun D σ H q => by
  obtain ⟨S0, H0, S, ρ, R, p⟩ := q
  refine t_then R p fun d v S' H' ex R' r p => ?_
  unfold rtF at p
  cases d with
  | bor ds => exact p.elim
  | _ => exact p v S' H' R'.ex (r.pre R.ex.hh)
theorem s_retOwnN {i : Nat} {x : Str} {pos' : Pos} (hN : X.N[i]? = some x) (hv : Vis X.env.scope x) (hd : (x == ("__debug__" : Str)) = false := by decide) (hcd : (x == ("__classdict__" : Str)) = false := by decide) :
    PS X (.Return (some (.Name x pos')) pos) (TSt X.K W (retOwnN i)) := PS.imp (ps_ret (pe_var hN hv hd hcd)) fun D σ H q => by
  obtain ⟨S0, H0, S, ρ, R, p⟩ := q
  unfold retOwnN at p
  cases e : ρ[i]? with
  | none => rw [e] at p; exact p.elim
  | some s =>
    rw [e] at p
    cases s with
    | own ds =>
      obtain ⟨x, h1, l, xs, rfl, h2, h3, h4, h5⟩ := R.at_ i _ e
      exact ⟨_, h1, p _ S H R.ex ⟨l, xs, rfl, h2, h3, h4, h5⟩⟩
    | un => exact p.elim
    | exc a => exact p.elim
    | ob l C fs => exact p.elim
    | v d => exact p.elim
theorem s_retN : PS X (.Return none pos) (TSt X.K W retN) := PS.imp ps_retN fun D σ H q => by
  obtain ⟨S0, H0, S, ρ, R, p⟩ := q
  exact p .non S H R.ex (rp_new .non)
theorem s_retOwn {i : Nat} {x : Str} {pos' : Pos} (hN : X.N[i]? = some x) (hv : Vis X.env.scope x) (hd : (x == ("__debug__" : Str)) = false := by decide) (hcd : (x == ("__classdict__" : Str)) = false := by decide) :
    PS X (.Return (some (.Name x pos')) pos) (TSt X.K W (retOwn i)) := PS.imp (ps_ret (pe_var hN hv hd hcd)) fun D σ H q => by
  obtain ⟨S0, H0, S, ρ, R, p⟩ := q
  unfold retOwn at p
  cases e : ρ[i]? with
  | none => rw [e] at p; exact p.elim
  | some s =>
    rw [e] at p
    cases s with
    | own ds =>
      obtain ⟨x, h1, l, xs, rfl, h2, h3, h4, h5⟩ := R.at_ i _ e
      obtain ⟨S', R', ss⟩ := R.freeze e
      have hl : i < ρ.length := (List.getElem?_eq_some_iff.mp e).1
      obtain ⟨y, g1, v, g2, g3⟩ := R'.at_ i _ (List.getElem?_set_self hl)
      rw [h1] at g1
      cases g1
      cases g2
      exact ⟨_, h1, p _ S' H R'.ex g3⟩
    | un => exact p.elim
    | exc a => exact p.elim
    | ob l C fs => exact p.elim
    | v d => exact p.elim
theorem s_expr (ha : PE X a (T X.K W f)) (hs : swapsWith a none pos.line X.env = pure false := by rfl) : PS X (.Expr a pos) (TSt X.K W (dropS f)) := PS.imp (ps_expr ha hs) fun D σ H q => by
  obtain ⟨S0, H0, S, ρ, R, p⟩ := q
  exact t_then R p fun d v S' H' ex R' r p => p σ S' H' R'
theorem s_asg {i : Nat} {x : Str} {pos' : Pos} (hN : X.N.Nodup) (hi : X.N[i]? = some x) (hx : Loc X.env.scope x) (ha : PE X a (T X.K W f)) (hs : swapsWith a (some (.Name x pos')) pos.line X.env = pure false := by rfl)
    (hf : X.fn x = true ∨ X.env.scope.names.lookup x = some .local := by first | exact .inl rfl | exact .inr rfl | assumption) : PS X (.Assign [.Name x pos'] a pos) (TSt X.K W (asgS i f)) := PS.imp (ps_set hN hi hx ha hs hf) fun D σ H q => by
  obtain ⟨S0, H0, S, ρ, R, p⟩ := q
  exact t_thenS R p fun d v S' H' ex R' r p => p _ S' H' (R'.set (s := .v d) ⟨v, rfl, r⟩ fun _ z => by cases z)
theorem Rel.setNew {K : PySem.W.Frag} {S0 H0 S H S' H' : Hp} {σ : St} {ρ : Rho} (R : Rel K S0 H0 S H σ ρ) (ex : Ext S H S' H') {i : Nat} {v : V} {ds : List D} (r : Rv K H S' H' v (.new ds)) : Rel K S0 H0 S' H' (σ.set i (some v)) (ρ.set i (.own ds)) := by
  obtain ⟨a, xs, rfl, h1, h2, h3, h4⟩ := r
  refine (R.ext ex).setOwn (R.ex.hh.free h1) h2 h3 h4 fun j es e1 e2 => ?_
  obtain ⟨y, g1, l, zs, rfl, k1, k2, k3, k4⟩ := R.at_ j _ e1
  rw [g1] at e2
  cases e2
  rw [h1] at k3; cases k3
theorem s_own {i : Nat} {x : Str} {pos' : Pos} (hN : X.N.Nodup) (hi : X.N[i]? = some x) (hx : Loc X.env.scope x) (ha : PE X a (T X.K W f)) (hs : swapsWith a (some (.Name x pos')) pos.line X.env = pure false := by rfl)
    (hf : X.fn x = true ∨ X.env.scope.names.lookup x = some .local := by first | exact .inl rfl | exact .inr rfl | assumption) : PS X (.Assign [.Name x pos'] a pos) (TSt X.K W (ownS i f)) := PS.imp (ps_set hN hi hx ha hs hf) fun D σ H q => by
  obtain ⟨S0, H0, S, ρ, R, p⟩ := q
  refine t_then R p fun d v S' H' ex R' r p => ?_
  cases d with
  | new ds => exact p _ S' H' (R.setNew ex r)
  | _ => exact p.elim
theorem s_frz {i : Nat} (h1 : PS X st (TSt X.K W g)) : PS X st (TSt X.K W (frzS i g)) := PS.imp h1 fun D σ H q => by
  obtain ⟨S0, H0, S, ρ, R, p⟩ := q
  unfold frzS at p
  cases e : ρ[i]? with
  | none => rw [e] at p; exact ⟨S0, H0, S, ρ, R, p⟩
  | some s =>
    rw [e] at p
    cases s with
    | own ds =>
      obtain ⟨S', R', _⟩ := R.freeze e
      exact ⟨S0, H0, S', _, R', p⟩
    | un => exact ⟨S0, H0, S, ρ, R, p⟩
    | exc a => exact ⟨S0, H0, S, ρ, R, p⟩
    | ob l C fs => exact ⟨S0, H0, S, ρ, R, p⟩
    | v d => exact ⟨S0, H0, S, ρ, R, p⟩
/-! targets -/
def GOk (K : PySem.W.Frag) (g : TG) (G : D → Rho → Option Rho) : Prop := ∀ (S0 H0 S H : Hp) (σ : St) (ρ : Rho) (x : V) (d : D) (ρ' : Rho) (Q : St → Hp → Prop), Rel K S0 H0 S H σ ρ → Rp K S x d → G d ρ = some ρ' →
  (∀ σ', Rel K S0 H0 S H σ' ρ' → Q σ' H) → g x σ H Q
def gN (i : Nat) : D → Rho → Option Rho := fun d ρ => some (ρ.set i (.v d))
def gU (is : List Nat) : D → Rho → Option Rho := fun d ρ => (unpD d).bind fun ds => setAll is ds ρ
theorem gN_ok {K : PySem.W.Frag} {i : Nat} : GOk K (gName i) (gN i) := by
  intro S0 H0 S H σ ρ x d ρ' Q R r e q
  cases e
  exact q _ (R.set (s := .v d) ⟨x, rfl, r⟩ fun _ z => by cases z)
def gsN : List Nat → TGs
  | [] => gNil
  | i :: r => gCons (gName i) (gsN r)
theorem gsN_ok {K : PySem.W.Frag} {S0 H0 S H : Hp} {Q : St → Hp → Prop} : ∀ {is : List Nat} {ds : List D} {vs : List V} {σ : St} {ρ ρ' : Rho}, Rel K S0 H0 S H σ ρ → RpAll K S vs ds → setAll is ds ρ = some ρ' →
    (∀ σ', Rel K S0 H0 S H σ' ρ' → Q σ' H) → gsN is vs σ H Q
  | [], [], _, σ, ρ, ρ', R, .nil, e, q => by
    cases e
    exact ⟨rfl, q σ R⟩
  | i :: is, d :: ds, _, σ, ρ, ρ', R, .cons (v := v) h r, e, q => by
    rw [setAll] at e
    refine ⟨v, _, rfl, ?_⟩
    exact gsN_ok (R.set (s := .v d) ⟨v, rfl, h⟩ fun _ z => by cases z) r e q
  | [], _ :: _, _, _, _, _, _, _, e, _ => by cases e
  | _ :: _, [], _, _, _, _, _, _, e, _ => by cases e
theorem setAll_length : ∀ {is : List Nat} {ds : List D} {ρ ρ' : Rho}, setAll is ds ρ = some ρ' → ds.length = is.length
  | [], [], _, _, _ => rfl
  | _ :: _, _ :: _, _, _, e => by
    rw [setAll] at e
    rw [List.length_cons, List.length_cons, setAll_length e]
  | [], _ :: _, _, _, e => by cases e
  | _ :: _, [], _, _, e => by cases e
theorem gU_ok {K : PySem.W.Frag} {is : List Nat} : GOk K (gTup K is.length (gsN is)) (gU is) := by
  intro S0 H0 S H σ ρ x d ρ' Q R r e q
  unfold gU at e
  cases d with
  | tup ds =>
    simp only [unpD, Option.bind_some] at e
    cases r with
    | tup h1 r1 => exact ⟨_, _, rfl, Same.seqT R.sh h1, by rw [r1.length, setAll_length e], gsN_ok R r1 e q⟩
  | _ => cases e
theorem s_unp {is : List Nat} {tg : Expr} {tpos : Pos} (ha : PE X a (T X.K W f)) (hg : PG X tg (gTup X.K is.length (gsN is))) (hs : swapsWithSole [tg] a pos.line X.env = pure false := by rfl) (hw : swappedStores [tg] a X.env = pure none := by rfl)
    (h1 : (assignEach [tg] X.env).map (·.2) = [assign tg X.env] := by rfl) : PS X (.Assign [tg] a pos) (TSt X.K W (unpS is f)) := PS.imp (ps_asg ha hg hs hw h1) fun D σ H q => by
  obtain ⟨S0, H0, S, ρ, R, p⟩ := q
  refine t_thenS R p fun d v S' H' ex R' r p => ?_
  cases e : (unpD d).bind fun ds => setAll is ds ρ with
  | none => rw [e] at p; exact p.elim
  | some ρ' =>
    rw [e] at p
    exact gU_ok S0 H0 S' H' σ ρ v d ρ' _ R' r e fun σ' R2 => p σ' S' H' R2
theorem s_par2 {i j : Nat} {x y : Str} {px py pt : Pos} {kt k2 : Nat} {pt2 : Pos} (hc : X.calm = true) (hN : X.N.Nodup) (hi : X.N[i]? = some x) (hj : X.N[j]? = some y) (hij : i ≠ j)
    (hx : X.env.scope.names.lookup x = some .local) (hy : X.env.scope.names.lookup y = some .local) (ha : PA X [a, b] (TAs X.K W fs))
    (hw : swappedStores [.Tuple [.Name x px, .Name y py] kt pt] (.Tuple [a, b] k2 pt2) X.env = pure (some [x, y]))
    (hs : swapsWithSole [.Tuple [.Name x px, .Name y py] kt pt] (.Tuple [a, b] k2 pt2) pos.line X.env = pure false := by rfl) :
    PS X (.Assign [.Tuple [.Name x px, .Name y py] kt pt] (.Tuple [a, b] k2 pt2) pos) (TSt X.K W (par2S i j fs)) := PS.imp (ps_par hc hN hi hj hij hx hy ha hw hs) fun D σ H q => by
  obtain ⟨S0, H0, S, ρ, R, p⟩ := q
  refine ⟨S0, H0, S, ρ, R, ?_⟩
  unfold par2S at p
  cases e : fs ρ with
  | ok ds =>
    rw [e] at p
    match ds, p with
    | [d1, d2], p =>
      intro vs S' H' ex r
      cases r with
      | cons r1 r =>
        cases r with
        | cons r2 r =>
          cases r
          refine ⟨_, _, rfl, p _ S' H' ?_⟩
          exact ((R.ext ex).set (s := .v d1) ⟨_, rfl, r1⟩ fun _ z => by cases z).set (s := .v d2) ⟨_, rfl, r2⟩ fun _ z => by cases z
    | [], p => exact p.elim
    | [_], p => exact p.elim
    | _ :: _ :: _ :: _, p => exact p.elim
  | err x => rw [e] at p; exact PostX.of R p
  | st => rw [e] at p; exact p.elim
/-! the def's own lists -/
theorem Rel.ownAt {K : PySem.W.Frag} {S0 H0 S H : Hp} {σ : St} {ρ : Rho} (R : Rel K S0 H0 S H σ ρ) {i : Nat} {ds : List D} (e : ρ[i]? = some (.own ds)) : ∃ l xs, σ[i]? = some (some (.ref l)) ∧ H l = some (.lst xs) ∧ RpAll K S xs ds := by
  obtain ⟨x, h1, l, xs, rfl, h2, h3, h4, h5⟩ := R.at_ i _ e
  exact ⟨l, xs, h1, h4, h5⟩
theorem s_app {i : Nat} (h1 : PE X e (tBM X.K "list" rAppend (tVar i) (tCons (T X.K W f) tNil))) (hs : swapsWith e none pos.line X.env = pure false := by rfl) : PS X (.Expr e pos) (TSt X.K W (appS i f)) :=
  PS.imp (ps_expr h1 hs) fun D σ H q => by
    obtain ⟨S0, H0, S, ρ, R, p⟩ := q
    unfold appS at p
    cases e : ρ[i]? with
    | none => rw [e] at p; exact p.elim
    | some s =>
      rw [e] at p
      cases s with
      | own ds =>
        obtain ⟨l, xs, h1, h2, h3⟩ := R.ownAt e
        refine ⟨_, h1, .inl ⟨rfl, _, SqL.of h2⟩, ?_⟩
        refine t_thenS R p fun d v S' H' ex R' r p => ?_
        obtain ⟨l', ys, g1, g2, g3⟩ := R'.ownAt e
        rw [h1] at g1
        cases g1
        split at p
        · rename_i hl
          exact ⟨l, ys, v, rfl, rfl, g2, by rw [g3.length, line_eq]; exact hl, p _ _ _ (R'.upd e h1 (g3.append (.cons r .nil)))⟩
        · exact p.elim
      | un => exact p.elim
      | exc a => exact p.elim
      | ob l C fs => exact p.elim
      | v d => exact p.elim
theorem s_set {i : Nat} (h1 : PS X st (tAsg (T X.K W fb) (gSub (tVar i) (T X.K W fa) rSetL))) : PS X st (TSt X.K W (setS i fa fb)) :=
  PS.imp h1 fun D σ H q => by
    obtain ⟨S0, H0, S, ρ, R, p⟩ := q
    unfold setS at p
    cases e : ρ[i]? with
    | none => rw [e] at p; exact p.elim
    | some s =>
      rw [e] at p
      cases s with
      | own ds =>
        obtain ⟨l, xs, h1, h2, h3⟩ := R.ownAt e
        refine t_thenS R p fun d v S' H' ex R' r p => ⟨_, h1, ?_⟩
        refine t_then R' p fun k u S2 H2 ex2 R2 r2 p => ?_
        cases k with
        | int k =>
          cases r2
          cases ej : ixN ds.length k with
          | none => simp only [ej] at p; exact p.elim
          | some j =>
            simp only [ej] at p
            obtain ⟨l', ys, g1, g2, g3⟩ := R2.ownAt e
            rw [h1] at g1
            cases g1
            exact ⟨l, ys, k, j, rfl, rfl, g2, by rw [g3.length]; exact ej, p _ _ _ (R2.upd e h1 (g3.set (r.mono ex2.ss) j))⟩
        | _ => exact p.elim
      | un => exact p.elim
      | exc a => exact p.elim
      | ob l C fs => exact p.elim
      | v d => exact p.elim
theorem s_pop {i : Nat} (h1 : PE X e (tBM0 X.K "list" rPop (tVar i))) (hs : swapsWith e none pos.line X.env = pure false := by rfl) : PS X (.Expr e pos) (TSt X.K W (popS i)) :=
  PS.imp (ps_expr h1 hs) fun D σ H q => by
    obtain ⟨S0, H0, S, ρ, R, p⟩ := q
    unfold popS at p
    cases e : ρ[i]? with
    | none => rw [e] at p; exact p.elim
    | some s =>
      rw [e] at p
      cases s with
      | own ds =>
        obtain ⟨l, xs, h1, h2, h3⟩ := R.ownAt e
        have hl := h3.length
        cases ds with
        | nil => exact p.elim
        | cons d0 dr =>
          have hp : 0 < xs.length := by rw [hl]; simp
          exact ⟨_, h1, .inl ⟨rfl, _, SqL.of h2⟩, l, xs, xs[xs.length - 1]'(by omega), rfl, rfl, h2, List.getElem?_eq_getElem (by omega), p _ _ _ (R.upd e h1 h3.dropLast)⟩
      | un => exact p.elim
      | exc a => exact p.elim
      | ob l C fs => exact p.elim
      | v d => exact p.elim
theorem s_clr {i : Nat} (h1 : PE X e (tBM0 X.K "list" rClear (tVar i))) (hs : swapsWith e none pos.line X.env = pure false := by rfl) : PS X (.Expr e pos) (TSt X.K W (clrS i)) :=
  PS.imp (ps_expr h1 hs) fun D σ H q => by
    obtain ⟨S0, H0, S, ρ, R, p⟩ := q
    unfold clrS at p
    cases e : ρ[i]? with
    | none => rw [e] at p; exact p.elim
    | some s =>
      rw [e] at p
      cases s with
      | own ds =>
        obtain ⟨l, xs, h1, h2, h3⟩ := R.ownAt e
        exact ⟨_, h1, .inl ⟨rfl, _, SqL.of h2⟩, l, xs, rfl, rfl, h2, p _ _ _ (R.upd e h1 .nil)⟩
      | un => exact p.elim
      | exc a => exact p.elim
      | ob l C fs => exact p.elim
      | v d => exact p.elim
theorem s_aug {i : Nat} {x : Str} {pos' : Pos} (hN : X.N.Nodup) (hi : X.N[i]? = some x) (hx : Loc X.env.scope x) (ha : PE X a (T X.K W f)) (hf : X.fn x = true ∨ X.env.scope.names.lookup x = some .local := by first | exact .inl rfl | exact .inr rfl | assumption) :
    PS X (.AugAssign (.Name x pos') .Add a pos) (TSt X.K W (augS i f)) := PS.imp (ps_aug hN hi hx ha ip_add hf) fun D σ H q => by
  obtain ⟨S0, H0, S, ρ, R, p⟩ := q
  unfold augS at p
  cases e : ρ[i]? with
  | none => rw [e] at p; exact p.elim
  | some s =>
    rw [e] at p
    cases s with
    | v d =>
      cases d with
      | int j =>
        obtain ⟨x, h1, v, rfl, h2⟩ := R.at_ i _ e
        cases h2
        refine ⟨_, h1, t_then R p fun d v S' H' ex R' r p => ?_⟩
        cases d with
        | int k =>
          cases r
          exact ⟨_, _, rfl, rfl, p _ _ _ (R'.set (s := .v (.int (j + k))) ⟨_, rfl, .int _⟩ fun _ z => by cases z)⟩
        | _ => exact p.elim
      | _ => exact p.elim
    | un => exact p.elim
    | exc a => exact p.elim
    | ob l C fs => exact p.elim
    | own ds => exact p.elim
end
end DL

namespace DL
open PySem L2

/-! ### what is walked -/
/-- J gives the data ds one by one while what is stable in S stays -/
def ItOk (K : PySem.W.Frag) (J : It) (S : Hp) (ds : List D) : Prop := ∃ (G : Hp → Prop) (Y : Nat → Hp → V → Hp → Prop), Walk J ds.length G Y ∧ (∀ H, Same S H → G H) ∧
  ∀ (i : Nat) (H : Hp) (x : V) (H' : Hp) (d : D) (S2 : Hp), Y i H x H' → ds[i]? = some d → Same S S2 → Same S2 H → ∃ S3, Ext S2 H S3 H' ∧ Rp K S3 x d
def TIs (K : PySem.W.Frag) (W : WX) (f : Ea) : TI := fun σ H R => ∃ S0 H0 S ρ, Rel K S0 H0 S H σ ρ ∧ (match f ρ with
  | .ok ds => ∀ J S1 H1, Ext S H S1 H1 → ItOk K J S1 ds → R J H1
  | .err x => PostX W S H σ x
  | .st => False)
theorem PI.imp {X : Cx} {tg e : Expr} {t t' : TI} (h : PI X tg e t) (hi : ∀ σ H R, t' σ H R → t σ H R) : PI X tg e t' := ⟨fun pins s σ H R I q => h.run pins s σ H R I (hi _ _ _ q)⟩
def seqO : D → Option (List D)
  | .tup ds => some ds
  | .lst ds => some ds
  | _ => none
def seqI (f : Ev) : Ea := fun ρ => (stE f ρ).bind fun d => ofO (seqO d)
section
variable {X : Cx} {W : WX} {tg l : Expr} {f fa fb : Ev}
open PySem.Spec PyProof.Rows in
theorem pi_seq {tl : TE} (hl : PE X l tl) : PI X tg l (fun σ H R => tl σ H fun x H1 => ∃ a, x = .ref a ∧ ((∃ xs, SqL X.K H1 a xs) ∧ R (Itl X.K a) H1 ∨ (∃ xs, SqT X.K H1 a xs) ∧ R (Itt X.K a) H1)) := by
  refine ⟨fun pins s σ H R I h => ?_⟩
  refine thn (hl.run pins s σ H _ I h) fun v s1 ⟨x, H1, I1, r1, q1⟩ => ?_
  obtain ⟨a, e, q1⟩ := q1
  subst e
  cases r1
  rcases q1 with ⟨⟨xs, hq⟩, q⟩ | ⟨⟨xs, hq⟩, q⟩
  · obtain ⟨its, rv, p, hz⟩ := I1.list hq
    refine wpAny_pyIter_list p.isList ?_
    refine ⟨s1.heap.objs.size, [s1.heap.objs.size], _, _, H1, rfl, I1.kept (t' := s1.toks) fun b o e => Heap.get?_push_of_some _ e, turn_list a _, ⟨_, Heap.get?_push_size _ rfl, rfl, rfl⟩, fun b hb => ?_, q⟩
    have e : b = s1.heap.objs.size := by simpa using hb
    subst e
    exact I1.fpOk (Nat.le_refl _) (I1.hok.fresh (Nat.le_refl _))
  · obtain ⟨its, rv, p, hz⟩ := I1.tuple hq
    refine wpAny_pyIter_tuple (show s1.heap.IsTuple a its.toArray from p) ?_
    refine ⟨s1.heap.objs.size, [s1.heap.objs.size], _, _, H1, rfl, I1.kept (t' := s1.toks) fun b o e => Heap.get?_push_of_some _ e, turn_tuple a _, ⟨_, Heap.get?_push_size _ rfl, rfl, rfl⟩, fun b hb => ?_, q⟩
    have e : b = s1.heap.objs.size := by simpa using hb
    subst e
    exact I1.fpOk (Nat.le_refl _) (I1.hok.fresh (Nat.le_refl _))
theorem it_list {K : PySem.W.Frag} {S : Hp} {a : Addr} {xs : List V} {ds : List D} (h : S a = some (.lst xs)) (r : RpAll K S xs ds) : ItOk K (Itl K a) S ds := by
  refine ⟨fun H => SqL K H a xs, YAt xs, by rw [← r.length]; exact walk_list, fun H m => SqL.of (m _ _ h), fun i H x H' d S2 y e m1 m2 => ?_⟩
  obtain ⟨rfl, y⟩ := y
  obtain ⟨v, h1, h2⟩ := r.get e
  rw [h1] at y
  cases y
  exact ⟨S2, Ext.refl m2, h2.mono m1⟩
theorem it_tup {K : PySem.W.Frag} {S : Hp} {a : Addr} {xs : List V} {ds : List D} (h : SqT K S a xs) (r : RpAll K S xs ds) : ItOk K (Itt K a) S ds := by
  refine ⟨fun H => SqT K H a xs, YAt xs, by rw [← r.length]; exact walk_tup, fun H m => Same.seqT m h, fun i H x H' d S2 y e m1 m2 => ?_⟩
  obtain ⟨rfl, y⟩ := y
  obtain ⟨v, h1, h2⟩ := r.get e
  rw [h1] at y
  cases y
  exact ⟨S2, Ext.refl m2, h2.mono m1⟩
theorem it_range {K : PySem.W.Frag} {S : Hp} {lo : Int} {n : Nat} : ItOk K (Itr lo n) S ((List.range n).map fun (i : Nat) => D.int (lo + (i : Int))) := by
  refine ⟨fun _ => True, _, by rw [List.length_map, List.length_range]; exact walk_range, fun _ _ => trivial, fun i H x H' d S2 y e m1 m2 => ?_⟩
  obtain ⟨rfl, rfl⟩ := y
  rw [List.getElem?_map] at e
  cases e2 : (List.range n)[i]? with
  | none => rw [e2] at e; cases e
  | some j =>
    rw [e2] at e
    cases e
    have : j = i := by
      obtain ⟨hh, q⟩ := List.getElem?_eq_some_iff.mp e2
      rw [List.getElem_range] at q
      exact q.symm
    subst this
    exact ⟨S2, Ext.refl m2, .int _⟩
theorem i_seq (ha : PE X l (T X.K W f)) : PI X tg l (TIs X.K W (seqI f)) := PI.imp (pi_seq ha) fun σ H R q => by
  obtain ⟨S0, H0, S, ρ, Re, p⟩ := q
  refine t_stE ⟨S0, H0, S, ρ, Re, ?_⟩
  unfold seqI at p
  cases e : stE f ρ with
  | ok d =>
    rw [e] at p
    obtain ⟨d0, _, hd⟩ := stE_ok e
    refine fun v S1 H1 ex r => ?_
    have r := settle_rp hd r
    cases d with
    | tup ds =>
      cases r with
      | tup h1 q => exact ⟨_, rfl, .inr ⟨⟨_, Same.seqT ex.sh h1⟩, p _ S1 H1 ex (it_tup h1 q)⟩⟩
    | lst ds =>
      cases r with
      | lst h1 q => exact ⟨_, rfl, .inl ⟨⟨_, SqL.of (ex.sh _ _ h1)⟩, p _ S1 H1 ex (it_list h1 q)⟩⟩
    | _ => exact p.elim
  | err x => rw [e] at p; exact p
  | st => rw [e] at p; exact p
def rngI (lo : Int) (n : Nat) : List D := (List.range n).map fun (i : Nat) => D.int (lo + (i : Int))
def rng1I (f : Ev) : Ea := fun ρ => (f ρ).bind fun d => match d with
  | .int j => if -(2 ^ 62) ≤ j ∧ j < 2 ^ 62 then .ok (rngI 0 j.toNat) else .st
  | _ => .st
def rng2I (fa fb : Ev) : Ea := fun ρ => (fa ρ).bind fun d => (fb ρ).bind fun d' => match d, d' with
  | .int i, .int j => if (-(2 ^ 62) ≤ i ∧ i < 2 ^ 62) ∧ (-(2 ^ 62) ≤ j ∧ j < 2 ^ 62) then .ok (rngI i (j - i).toNat) else .st
  | _, _ => .st
theorem i_range1 {a : Expr} {p pos : Pos} (hm : X.mg "range" = none) (ha : PE X a (T X.K W f)) (hg : Gl X "range" := by rfl)
    (h1 : starEach [a] X.env = (false, eval a X.env) :: starEach [] X.env := by rfl) (hs : starEach [a] X.env = [(false, eval a X.env)] := by rfl) : PI X tg (.Call (.Name "range" p) [a] [] pos) (TIs X.K W (rng1I f)) :=
  PI.imp (pi_range1 hg hm (pa_cons ha pa_nil h1) hs) fun σ H R q => by
    obtain ⟨S0, H0, S, ρ, Re, p⟩ := q
    refine ⟨S0, H0, S, ρ, Re, ?_⟩
    unfold rng1I at p
    cases e : f ρ with
    | ok d =>
      rw [e] at p
      cases d with
      | int j =>
        simp only [bind_ok] at p
        refine fun v S1 H1 ex r => ?_
        cases r
        by_cases hj : -(2 ^ 62) ≤ j ∧ j < 2 ^ 62
        · rw [if_pos hj] at p
          exact ⟨j, rfl, hj.1, hj.2, p _ S1 H1 ex it_range⟩
        · rw [if_neg hj] at p; exact p.elim
      | _ => exact p.elim
    | err x => rw [e] at p; exact p
    | st => rw [e] at p; exact p
theorem i_range2 {a b : Expr} {p pos : Pos} (hm : X.mg "range" = none) (ha : PE X a (T X.K W fa)) (hb : PE X b (T X.K W fb)) (hg : Gl X "range" := by rfl)
    (h1 : starEach [a, b] X.env = (false, eval a X.env) :: starEach [b] X.env := by rfl) (h2 : starEach [b] X.env = (false, eval b X.env) :: starEach [] X.env := by rfl)
    (hs : starEach [a, b] X.env = [(false, eval a X.env), (false, eval b X.env)] := by rfl) (hs2 : starEach [b] X.env = [(false, eval b X.env)] := by rfl) : PI X tg (.Call (.Name "range" p) [a, b] [] pos) (TIs X.K W (rng2I fa fb)) :=
  PI.imp (pi_range2 hg hm (pa_cons ha (pa_cons hb pa_nil h2) h1) hs hs2) fun σ H R q => by
    obtain ⟨S0, H0, S, ρ, Re, p⟩ := q
    refine ⟨S0, H0, S, ρ, Re, ?_⟩
    unfold rng2I at p
    cases e : fa ρ with
    | ok d =>
      rw [e] at p
      refine fun v S1 H1 ex r => ⟨S0, H0, S1, ρ, Re.ext ex, ?_⟩
      simp only [bind_ok] at p
      cases e2 : fb ρ with
      | ok d2 =>
        rw [e2] at p
        simp only [bind_ok] at p
        refine fun v2 S2 H2 ex2 r2 => ?_
        cases d with
        | int i =>
          cases d2 with
          | int j =>
            cases r
            cases r2
            by_cases hj : (-(2 ^ 62) ≤ i ∧ i < 2 ^ 62) ∧ (-(2 ^ 62) ≤ j ∧ j < 2 ^ 62)
            · simp only [if_pos hj] at p
              exact ⟨i, j, rfl, ⟨hj.1.1, hj.1.2, hj.2.1, hj.2.2⟩, p _ S2 H2 (ex.trans ex2) it_range⟩
            · simp only [if_neg hj] at p
          | _ => exact p.elim
        | _ => exact p.elim
      | err x => rw [e2] at p; exact PostX.ext p ex
      | st => rw [e2] at p; exact p.elim
    | err x => rw [e] at p; exact p
    | st => rw [e] at p; exact p
/-- enumerate(xs) -/
def enumL (k : Nat) : List D → List D
  | [] => []
  | d :: ds => .tup [.int k, d] :: enumL (k + 1) ds
theorem enumL_length : ∀ (k : Nat) (ds : List D), (enumL k ds).length = ds.length
  | _, [] => rfl
  | k, d :: ds => by rw [enumL, List.length_cons, List.length_cons, enumL_length]
theorem enumL_get : ∀ (k : Nat) (ds : List D) (i : Nat), (enumL k ds)[i]? = (ds[i]?).map fun d => .tup [.int ((k + i : Nat) : Int), d]
  | _, [], i => by simp [enumL]
  | k, d :: ds, 0 => by simp [enumL]
  | k, d :: ds, i + 1 => by
    rw [enumL, List.getElem?_cons_succ, List.getElem?_cons_succ, enumL_get (k + 1) ds i]
    have : k + 1 + i = k + (i + 1) := by omega
    rw [this]
theorem it_enum {K : PySem.W.Frag} {S : Hp} {a : Addr} {xs : List V} {ds : List D} (h : S a = some (.lst xs)) (r : RpAll K S xs ds) : ItOk K (Ite K a) S (enumL 0 ds) := by
  have wk := walk_enum (K := K) (a := a) (xs := xs)
  rw [r.length, ← enumL_length 0 ds] at wk
  refine ⟨_, _, wk, fun H m => SqL.of (m _ _ h), fun i H x H' d S2 y e m1 m2 => ?_⟩
  obtain ⟨Tt, v, w, rfl, hT, rfl, hv, hw⟩ := y
  rw [enumL_get] at e
  cases e2 : ds[i]? with
  | none => rw [e2] at e; cases e
  | some d0 =>
    rw [e2] at e
    cases e
    obtain ⟨z, h1, h2⟩ := r.get e2
    have hw : xs[i]? = some w := hw
    rw [h1] at hw
    obtain rfl := Option.some.inj hw
    cases hv
    have ex := Ext.mk1 m2 hT (.tup [.int (i : Nat), z])
    refine ⟨_, ex, .tup (SqT.of upd_same) (.cons ?_ (.cons ((h2.mono m1).mono ex.ss) .nil))⟩
    rw [Nat.zero_add]
    exact .int _
/-- a, b of zip(xs, ys) -/
def zipL (ds es : List D) : List D := List.zipWith (fun a b => .tup [a, b]) ds es
theorem it_zip {K : PySem.W.Frag} {S : Hp} {a b : Addr} {xs ys : List V} {ds es : List D} (h : S a = some (.lst xs)) (r : RpAll K S xs ds) (h' : S b = some (.lst ys)) (r' : RpAll K S ys es) : ItOk K (Itz K a b) S (zipL ds es) := by
  refine ⟨_, _, walk_zip (K := K) (a := a) (b := b) (xs := xs) (ys := ys) (n := (zipL ds es).length) (by unfold zipL; rw [List.length_zipWith, r.length, r'.length]), fun H m => ⟨SqL.of (m _ _ h), SqL.of (m _ _ h')⟩, fun i H x H' d S2 y e m1 m2 => ?_⟩
  obtain ⟨Tt, v, w, rfl, hT, rfl, hv, hw⟩ := y
  unfold zipL at e
  rw [List.getElem?_zipWith] at e
  cases e2 : ds[i]? with
  | none => rw [e2] at e; simp at e
  | some d0 =>
    cases e3 : es[i]? with
    | none => rw [e2, e3] at e; simp at e
    | some d1 =>
      rw [e2, e3] at e
      simp only [Option.some.injEq] at e
      subst e
      obtain ⟨z, h1, h2⟩ := r.get e2
      obtain ⟨z', h3, h4⟩ := r'.get e3
      have hv : xs[i]? = some v := hv
      have hw : ys[i]? = some w := hw
      rw [h1] at hv
      rw [h3] at hw
      obtain rfl := Option.some.inj hv
      obtain rfl := Option.some.inj hw
      have ex := Ext.mk1 m2 hT (.tup [z, z'])
      exact ⟨_, ex, .tup (SqT.of upd_same) (.cons ((h2.mono m1).mono ex.ss) (.cons ((h4.mono m1).mono ex.ss) .nil))⟩
end

/-! ### for, while -/
def forO (G : D → Rho → Option Rho) (b : Es) : List D → Es
  | [], ρ => .nx ρ
  | d :: ds, ρ => match G d ρ with
    | none => .st
    | some ρ1 => match b ρ1 with
      | .nx ρ2 => forO G b ds ρ2
      | .ct ρ2 => forO G b ds ρ2
      | .bk ρ2 => .nx ρ2
      | o => o
def forS (f : Ea) (G : D → Rho → Option Rho) (b : Es) : Es := fun ρ => match f ρ with
  | .ok ds => forO G b ds ρ
  | .err x => .er x ρ
  | .st => .st
def whO (c : Eb) (b : Es) : Nat → Es
  | 0, _ => .st
  | n + 1, ρ => match c ρ with
    | .ok k => if k = true then (match b ρ with
      | .nx ρ2 => whO c b n ρ2
      | .ct ρ2 => whO c b n ρ2
      | .bk ρ2 => .nx ρ2
      | o => o) else .nx ρ
    | .err x => .er x ρ
    | .st => .st
def whS (n : Rho → Nat) (c : Eb) (b : Es) : Es := fun ρ => whO c b (n ρ) ρ
section
variable {K : PySem.W.Frag} {W : WX} {S0 H0 S H S1 H1 S' H' : Hp} {σ σ' : St} {ρ ρ' : Rho}
theorem Rel.rebase (R : Rel K S0 H0 S H σ ρ) : Rel K S H0 S H σ ρ := ⟨⟨Same.refl _, R.ex.hh, R.ex.sh, fun _ e _ => e⟩, R.len, R.at_, R.dis⟩
theorem Ext.unbase (e : Ext S0 H0 S1 H1) (e2 : Ext S1 H0 S' H') : Ext S0 H0 S' H' := ⟨e.ss.trans e2.ss, e2.hh, e2.sh, fun l a n => e2.fr l (e.fr l a n) n⟩
theorem Rel.unbase (e : Ext S0 H0 S1 H1) (R : Rel K S1 H0 S' H' σ ρ) : Rel K S0 H0 S' H' σ ρ := ⟨e.unbase R.ex, R.len, R.at_, R.dis⟩
end
section
variable {X : Cx} {W : WX} {tg it : Expr} {f : Ea} {b : Es} {c : Eb} {G : D → Rho → Option Rho} {g : TG} {body : List Stmt} {pos : Pos}
theorem s_for (hp : PassesOwn (model X.prog X.w) X.A X.env X.xe) (hc : X.calm = true) (hi : PI X tg it (TIs X.K W f)) (hg : PG X tg g) (hG : GOk X.K g G) (hb : PSs X body (TSt X.K W b)) (hs : ∀ x, foldedSetIterable it X.env x = pure x := by intro _; rfl) :
    PS X (.For tg it body [] pos) (TSt X.K W (forS f G b)) := PS.imp (ps_for hp hc hi hg hb hs) fun D σ H q => by
  obtain ⟨S0, H0, S, ρ, R, p⟩ := q
  refine ⟨S0, H0, S, ρ, R, ?_⟩
  unfold forS at p
  cases e : f ρ with
  | err x => rw [e] at p; exact PostX.of R p
  | st => rw [e] at p; exact p.elim
  | ok ds =>
    rw [e] at p
    intro J S1 H1 ex ok
    obtain ⟨Gd, Y, wk, hGd, hY⟩ := ok
    have R1 := R.ext ex
    refine for_it wk (fun i σ H => ∃ S ρ, Rel X.K S1 H0 S H σ ρ ∧ PostS X.K W S0 H0 D (forO G b (ds.drop i) ρ)) ⟨S1, ρ, R1.rebase, p⟩ (fun i σ' H' _ ⟨S', ρ', R', _⟩ => hGd H' (R'.ex.ss.trans R'.ex.sh)) ?_ ?_
    · rintro i x σ2 H2 H3 hi ⟨S2, ρ2, R2, p2⟩ y
      have hd : ds.drop i = ds[i] :: ds.drop (i + 1) := (List.drop_eq_getElem_cons hi)
      rw [hd] at p2
      obtain ⟨S3, ex3, r3⟩ := hY i H2 x H3 ds[i] S2 y (List.getElem?_eq_getElem hi) R2.ex.ss R2.ex.sh
      have R3 := R2.ext ex3
      rw [forO] at p2
      cases eg : G ds[i] ρ2 with
      | none => rw [eg] at p2; exact p2.elim
      | some ρ3 =>
        rw [eg] at p2
        refine hG _ _ _ _ _ _ _ _ _ _ R3 r3 eg fun σ4 R4 => ?_
        refine ⟨S1, H0, S3, ρ3, R4, ?_⟩
        cases eb : b ρ3 with
        | nx ρ5 => simp only [eb] at p2; exact fun σ5 S5 H5 R5 => ⟨S5, ρ5, R5, p2⟩
        | ct ρ5 => simp only [eb] at p2; exact fun σ5 S5 H5 R5 => ⟨S5, ρ5, R5, p2⟩
        | bk ρ5 => simp only [eb] at p2; exact fun σ5 S5 H5 R5 => p2 σ5 S5 H5 (R5.unbase R1.ex)
        | rt d => simp only [eb] at p2; exact fun v S5 H5 e5 r5 => p2 v S5 H5 (R1.ex.unbase e5) r5
        | er x ρ5 => simp only [eb] at p2; exact fun dd σ5 S5 H5 R5 hx => p2 dd σ5 S5 H5 (R5.unbase R1.ex) hx
        | st => simp only [eb] at p2; exact p2
    · rintro σ2 H2 ⟨S2, ρ2, R2, p2⟩
      rw [List.drop_length, forO] at p2
      exact p2 σ2 S2 H2 (R2.unbase R1.ex)
theorem s_while {n : Rho → Nat} {c' : Expr} (hp : PassesOwn (model X.prog X.w) X.A X.env X.xe) (hc : PT X c' (TB X.K W c)) (hb : PSs X body (TSt X.K W b)) : PS X (.While c' body [] pos) (TSt X.K W (whS n c b)) := PS.imp (ps_while hp hc hb) fun D σ H q => by
  obtain ⟨S0, H0, S, ρ, R, p⟩ := q
  refine ⟨fun m σ H => ∃ S ρ, Rel X.K S0 H0 S H σ ρ ∧ PostS X.K W S0 H0 D (whO c b m ρ), ⟨n ρ, S, ρ, R, p⟩, ?_⟩
  rintro m σ1 H1 ⟨S1, ρ1, R1, p1⟩
  refine ⟨S0, H0, S1, ρ1, R1, ?_⟩
  cases m with
  | zero => rw [whO] at p1; exact p1.elim
  | succ m =>
    rw [whO] at p1
    cases e : c ρ1 with
    | err x => rw [e] at p1; exact PostX.of R1 p1
    | st => rw [e] at p1; exact p1.elim
    | ok k =>
      simp only [e] at p1
      cases k with
      | false =>
        intro S' H' ex
        exact p1 σ1 S' H' (R1.ext ex)
      | true =>
        simp only [if_true] at p1
        intro S' H' ex
        refine ⟨fun σ2 H2 => ∃ S ρ, Rel X.K S0 H0 S H2 σ2 ρ ∧ PostS X.K W S0 H0 D (whO c b m ρ), fun σ' H' h => ⟨m, Nat.lt_succ_self m, h⟩, S0, H0, S', ρ1, R1.ext ex, ?_⟩
        cases eb : b ρ1 with
        | nx ρ5 => simp only [eb] at p1; exact fun σ5 S5 H5 R5 => ⟨S5, ρ5, R5, p1⟩
        | ct ρ5 => simp only [eb] at p1; exact fun σ5 S5 H5 R5 => ⟨S5, ρ5, R5, p1⟩
        | bk ρ5 => simp only [eb] at p1; exact p1
        | rt d => simp only [eb] at p1; exact p1
        | er x ρ5 => simp only [eb] at p1; exact p1
        | st => simp only [eb] at p1; exact p1
end

/-! ### comprehensions -/
def noW : WX := fun _ _ _ _ => False
def sure {α : Type} : Res α → Res α
  | .ok a => .ok a
  | _ => .st
def lcO (G : D → Rho → Option Rho) (t : Eb) (e : Ev) (ρ : Rho) : List D → Res (List D)
  | [] => .ok []
  | d :: ds => match G d ρ with
    | none => .st
    | some ρ1 => (sure (t ρ1)).bind fun k => if k = true then (sure (stE e ρ1)).bind fun x => (lcO G t e ρ ds).bind fun xs => .ok (x :: xs) else lcO G t e ρ ds
def wipeR (ρ : Rho) : List Nat → Rho
  | [] => ρ
  | v :: vs => (wipeR ρ vs).set v .un
def lcE (f : Ea) (vs : List Nat) (G : D → Rho → Option Rho) (t : Eb) (e : Ev) : Ev := fun ρ => (f ρ).bind fun ds => if ds.length ≤ LINE then (lcO G t e (wipeR ρ vs) ds).bind fun xs => .ok (.new xs) else .st
def yesB : Eb := fun _ => .ok true
theorem wipeR_length (ρ : Rho) : ∀ vs : List Nat, (wipeR ρ vs).length = ρ.length
  | [] => rfl
  | v :: vs => by rw [wipeR, List.length_set, wipeR_length ρ vs]
theorem wipeR_get (ρ : Rho) {i : Nat} {s : Slot} : ∀ {vs : List Nat}, (wipeR ρ vs)[i]? = some s → s = .un ∨ (ρ[i]? = some s ∧ i ∉ vs)
  | [], h => .inr ⟨h, by simp⟩
  | v :: vs, h => by
    rw [wipeR] at h
    by_cases hi : v = i
    · subst hi
      by_cases hl : v < (wipeR ρ vs).length
      · rw [List.getElem?_set_self hl] at h
        cases h
        exact .inl rfl
      · rw [List.getElem?_eq_none (by rw [List.length_set]; omega)] at h; cases h
    · rw [List.getElem?_set_ne hi] at h
      rcases wipeR_get ρ h with q | ⟨q, n⟩
      · exact .inl q
      · refine .inr ⟨q, fun z => ?_⟩
        rcases List.mem_cons.mp z with z | z
        · exact hi z.symm
        · exact n z
theorem wipe_get {σ : St} {i : Nat} : ∀ {vs : List Nat}, i ∉ vs → (wipe σ vs)[i]? = σ[i]?
  | [], _ => rfl
  | v :: vs, h => by
    rw [wipe, List.getElem?_set_ne (fun z => h (by rw [z]; exact List.mem_cons_self))]
    exact wipe_get fun z => h (List.mem_cons_of_mem _ z)
theorem Rel.wiped {K : PySem.W.Frag} {S0 H0 S H : Hp} {σ : St} {ρ : Rho} (R : Rel K S0 H0 S H σ ρ) (vs : List Nat) : Rel K S0 H0 S H (wipe σ vs) (wipeR ρ vs) := by
  refine ⟨R.ex, by rw [wipe_length, wipeR_length]; exact R.len, fun i s e => ?_, fun i j l ds es n e1 e2 e3 e4 => ?_⟩
  · rcases wipeR_get ρ e with rfl | ⟨q, n⟩
    · have hi : i < (wipe σ vs).length := by
        have := (List.getElem?_eq_some_iff.mp e).1
        rw [wipeR_length] at this
        rw [wipe_length, R.len]; exact this
      exact ⟨_, List.getElem?_eq_getElem hi, trivial⟩
    · rw [wipe_get n]
      exact R.at_ i s q
  · have f : ∀ {m : Nat} {fs : List D}, (wipeR ρ vs)[m]? = some (.own fs) → ρ[m]? = some (.own fs) ∧ m ∉ vs := fun {m fs} e => by
      rcases wipeR_get ρ e with q | q
      · cases q
      · exact q
    obtain ⟨g1, n1⟩ := f e1
    obtain ⟨g2, n2⟩ := f e2
    rw [wipe_get n1] at e3
    rw [wipe_get n2] at e4
    exact R.dis i j l ds es n g1 g2 e3 e4
/-- a comprehension's target keeps to its own slots -/
def GIn (g : TG) (vs : List Nat) : Prop := ∀ x σ H (Q : St → Hp → Prop), g x (wipe σ vs) H Q → g x (wipe σ vs) H fun σ2 H2 => wipe σ2 vs = wipe σ vs ∧ Q σ2 H2
theorem gin_name {i : Nat} : GIn (gName i) [i] := by
  intro x σ H Q q
  refine ⟨?_, q⟩
  show (List.set (List.set (List.set σ i none) i (some x)) i none) = List.set σ i none
  rw [List.set_set, List.set_set]
theorem gin_two {K : PySem.W.Frag} {i j : Nat} (hij : i ≠ j) : GIn (gTup K 2 (gsN [i, j])) [i, j] := by
  intro x σ H Q q
  obtain ⟨a, xs, rfl, h1, h2, v, r, rfl, w, r2, rfl, rfl, q⟩ := q
  refine ⟨a, _, rfl, h1, h2, v, _, rfl, w, _, rfl, rfl, ?_, q⟩
  show List.set (List.set (List.set (List.set (List.set (List.set σ j none) i none) i (some v)) j (some w)) j none) i none = List.set (List.set σ j none) i none
  rw [List.set_set (a := none) (b := some v)]
  rw [List.set_set]
  rw [List.set_comm _ _ (Ne.symm hij), List.set_set, List.set_comm _ _ hij, List.set_set]
section
variable {X : Cx} {W : WX} {elt tg iter : Expr} {ifs : List Expr} {scope : Scope} {own : List (Str × Nat)} {pos : Pos} {f : Ea} {g : TG} {G : D → Rho → Option Rho} {t : Eb} {e : Ev}
abbrev PTs' (X : Cx) (ifs : List Expr) (t : Eb) : Prop := PTs X ifs (TB X.K noW t)
theorem t_lc (hG : GOk X.K g G) (hv : GIn g (own.map (·.2))) {σ : St} {H : Hp} {Q : VK} (h : T X.K W (lcE f (own.map (·.2)) G t e) σ H Q) :
    tLc (TIs X.K W f) g (TB X.K noW t) (T X.K noW e) (own.map (·.2)) σ H Q := by
  obtain ⟨S0, H0, S, ρ, R, p⟩ := h
  refine ⟨S0, H0, S, ρ, R, ?_⟩
  unfold lcE at p
  cases ef : f ρ with
  | err x => rw [ef] at p; exact p
  | st => rw [ef] at p; exact p
  | ok ds =>
    rw [ef] at p
    simp only [bind_ok] at p
    by_cases hl : ds.length ≤ LINE
    · rw [if_pos hl] at p
      cases el : lcO G t e (wipeR ρ (own.map (·.2))) ds with
      | err x =>
        exfalso
        have : ∀ ds, ∀ x, lcO G t e (wipeR ρ (own.map (·.2))) ds ≠ .err x := by
          intro ds
          induction ds with
          | nil => intro x z; rw [lcO] at z; cases z
          | cons d ds ih =>
            intro x z
            rw [lcO] at z
            cases eg : G d (wipeR ρ (own.map (·.2))) with
            | none => rw [eg] at z; cases z
            | some ρ1 =>
              simp only [eg] at z
              cases et : t ρ1 with
              | err y => simp only [et, sure, bind_st] at z; cases z
              | st => simp only [et, sure, bind_st] at z; cases z
              | ok k =>
                simp only [et, sure, bind_ok] at z
                cases k with
                | false => simp only [Bool.false_eq_true, if_false] at z; exact ih x z
                | true =>
                  simp only [if_true] at z
                  cases ee : stE e ρ1 with
                  | err y => simp only [ee, sure, bind_st] at z; cases z
                  | st => simp only [ee, sure, bind_st] at z; cases z
                  | ok y =>
                    simp only [ee, sure, bind_ok] at z
                    cases er : lcO G t e (wipeR ρ (own.map (·.2))) ds with
                    | err y => exact ih y er
                    | st => rw [er] at z; cases z
                    | ok ys => rw [er] at z; cases z
        exact this ds x el
      | st => rw [el] at p; exact p.elim
      | ok xs =>
        rw [el] at p
        simp only [bind_ok] at p
        intro J S1 H1 ex ok D hD
        obtain ⟨Gd, Y, wk, hGd, hY⟩ := ok
        have R1 := R.ext ex
        -- the items made so far and what the rest makes
        refine lc_it wk (fun i H2 => ∃ S2 acc ys zs, Ext S1 H1 S2 H2 ∧ S2 D = none ∧ H2 D = some (.lst acc) ∧ RpAll X.K S2 acc ys ∧ acc.length ≤ i ∧ lcO G t e (wipeR ρ (own.map (·.2))) (ds.drop i) = .ok zs ∧ ys ++ zs = xs) ?_ ?_ ?_ ?_
        · exact ⟨S1, [], [], xs, Ext.mk0 ex.sh hD _, ex.sh.free hD, upd_same, .nil, Nat.le_refl _, by rw [List.drop_zero]; exact el, rfl⟩
        · rintro i H2 _ ⟨S2, acc, ys, zs, e2, _⟩
          exact hGd H2 (e2.ss.trans e2.sh)
        · rintro i x H2 H3 hi ⟨S2, acc, ys, zs, e2, hS, hA, ra, hac, hz, hx⟩ y
          have hd : ds.drop i = ds[i] :: ds.drop (i + 1) := (List.drop_eq_getElem_cons hi)
          rw [hd, lcO] at hz
          obtain ⟨S3, ex3, r3⟩ := hY i H2 x H3 ds[i] S2 y (List.getElem?_eq_getElem hi) e2.ss e2.sh
          have R3 := (R1.ext (e2.trans ex3)).wiped (own.map (·.2))
          have hS3 : S3 D = none := ex3.fr D hS (by rw [hA]; exact fun z => by cases z)
          have hA3 := ex3.hh _ _ hA
          cases eg : G ds[i] (wipeR ρ (own.map (·.2))) with
          | none => rw [eg] at hz; cases hz
          | some ρ3 =>
            simp only [eg] at hz
            refine hv x σ H3 _ (hG _ _ _ _ _ _ _ _ _ _ R3 r3 eg fun σ4 R4 => ?_)
            refine ⟨S0, H0, S3, ρ3, R4, ?_⟩
            cases et : t ρ3 with
            | err y => simp only [et, sure, bind_st] at hz; cases hz
            | st => simp only [et, sure, bind_st] at hz; cases hz
            | ok k =>
              simp only [et, sure, bind_ok] at hz
              intro S4 H4 ex4
              have hS4 : S4 D = none := ex4.fr D hS3 (by rw [hA3]; exact fun z => by cases z)
              have hA4 := ex4.hh _ _ hA3
              cases k with
              | false =>
                simp only [Bool.false_eq_true, if_false] at hz ⊢
                exact ⟨S4, acc, ys, zs, e2.trans (ex3.trans ex4), hS4, hA4, ra.mono (ex3.trans ex4).ss, by omega, hz, hx⟩
              | true =>
                simp only [if_true] at hz ⊢
                cases ee : stE e ρ3 with
                | err y => simp only [ee, sure, bind_st] at hz; cases hz
                | st => simp only [ee, sure, bind_st] at hz; cases hz
                | ok y =>
                  simp only [ee, sure, bind_ok] at hz
                  cases er : lcO G t e (wipeR ρ (own.map (·.2))) (ds.drop (i + 1)) with
                  | err y => rw [er] at hz; cases hz
                  | st => rw [er] at hz; cases hz
                  | ok ws =>
                    rw [er] at hz
                    cases hz
                    obtain ⟨d0, _, hd0⟩ := stE_ok ee
                    refine t_stE ⟨S0, H0, S4, ρ3, R4.ext ex4, ?_⟩
                    rw [ee]
                    intro v S5 H5 ex5 r5
                    have r5 := settle_rp hd0 r5
                    have hS5 : S5 D = none := ex5.fr D hS4 (by rw [hA4]; exact fun z => by cases z)
                    have hA5 := ex5.hh _ _ hA4
                    have e5 := e2.trans (ex3.trans (ex4.trans ex5))
                    refine ⟨acc, hA5, by rw [line_eq]; omega, S5, acc ++ [v], ys ++ [y], ws, ⟨e5.ss, fun b u q => ?_, fun b u q => ?_, e5.fr⟩, hS5, upd_same, (ra.mono (ex3.trans (ex4.trans ex5)).ss).append (.cons r5 .nil), by rw [List.length_append, List.length_singleton]; omega, rfl, by rw [List.append_assoc]; exact hx⟩
                    · rw [upd_ne (ne_of_none q hD)]; exact e5.hh _ _ q
                    · rw [upd_ne (ne_of_none q hS5)]; exact e5.sh _ _ q
        · rintro H2 ⟨S2, acc, ys, zs, e2, hS, hA, ra, hac, hz, hx⟩
          rw [List.drop_length, lcO] at hz
          cases hz
          rw [List.append_nil] at hx
          subst hx
          exact p _ S2 H2 (ex.trans e2) ⟨D, acc, rfl, ex.hh.free hD, hS, hA, ra⟩
    · rw [if_neg hl] at p; exact p.elim
theorem d_lc (hc : X.calm = true) (hN : X.N.Nodup) (hi : PI X tg iter (TIs X.K W f)) (ok : BlkOk X.N X.env.scope scope own) (hG : GOk X.K g G) (hv : GIn g (own.map (·.2)))
    (hg : ∀ (s : Shared) (H : Hp) (C : Addr) (cl : List (Str × Addr)) (fp : List Addr), PG (X.blk s H scope (compEnvC scope cl C X.env) fp) tg g)
    (ht : ∀ (s : Shared) (H : Hp) (C : Addr) (cl : List (Str × Addr)) (fp : List Addr), PTs (X.blk s H scope (compEnvC scope cl C X.env) fp) ifs (TB X.K noW t))
    (he : ∀ (s : Shared) (H : Hp) (C : Addr) (cl : List (Str × Addr)) (fp : List Addr), PE (X.blk s H scope (compEnvC scope cl C X.env) fp) elt (T X.K noW e)) (hs : ∀ x, foldedSetIterable iter X.env x = pure x := by intro _; rfl) :
    PE X (.ListComp elt [⟨tg, iter, ifs, 0⟩] scope pos) (T X.K W (lcE f (own.map (·.2)) G t e)) := PE.imp (pe_lc hc hN hi ok hg ht he hs) fun _ _ _ h => t_lc hG hv h
theorem s_asgLc {i : Nat} {y : Str} {py spos : Pos} (hc : X.calm = true) (hN : X.N.Nodup) (hy : X.N[i]? = some y) (hyl : X.env.scope.names.lookup y = some .local)
    (hsw : swapsWith (.ListComp elt [⟨tg, iter, ifs, 0⟩] scope pos) (some (.Name y py)) spos.line X.env = pure true) (hi : PI X tg iter (TIs X.K W f)) (ok : BlkOk X.N X.env.scope scope own) (hG : GOk X.K g G) (hv : GIn g (own.map (·.2)))
    (hg : ∀ (s : Shared) (H : Hp) (C : Addr) (cl : List (Str × Addr)) (fp : List Addr), PG (X.blk s H scope (compEnvC scope cl C X.env) fp) tg g)
    (ht : ∀ (s : Shared) (H : Hp) (C : Addr) (cl : List (Str × Addr)) (fp : List Addr), PTs (X.blk s H scope (compEnvC scope cl C X.env) fp) ifs (TB X.K noW t))
    (he : ∀ (s : Shared) (H : Hp) (C : Addr) (cl : List (Str × Addr)) (fp : List Addr), PE (X.blk s H scope (compEnvC scope cl C X.env) fp) elt (T X.K noW e)) (hs : ∀ x, foldedSetIterable iter X.env x = pure x := by intro _; rfl) :
    PS X (.Assign [.Name y py] (.ListComp elt [⟨tg, iter, ifs, 0⟩] scope pos) spos) (TSt X.K W (asgS i (lcE f (own.map (·.2)) G t e))) :=
  PS.imp (ps_setLc hc hN hy hyl hsw hi ok hg ht he hs) fun D σ H q => by
    obtain ⟨S0, H0, S, ρ, R, p⟩ := q
    show tLc _ _ _ _ _ σ H _
    refine t_lc hG hv (t_thenS' R p)
where
  t_thenS' {S0 H0 S H : Hp} {σ : St} {ρ : Rho} {D : Ends} (R : Rel X.K S0 H0 S H σ ρ) (p : PostS X.K W S0 H0 D (asgS i (lcE f (own.map (·.2)) G t e) ρ)) : T X.K W (lcE f (own.map (·.2)) G t e) σ H fun x H1 => gName i x σ H1 D.nx :=
    t_thenS R p fun d v S' H' ex R' r p => p _ S' H' (R'.set (s := .v d) ⟨v, rfl, r⟩ fun _ z => by cases z)
theorem s_ownLc {i : Nat} {y : Str} {py spos : Pos} (hc : X.calm = true) (hN : X.N.Nodup) (hy : X.N[i]? = some y) (hyl : X.env.scope.names.lookup y = some .local)
    (hsw : swapsWith (.ListComp elt [⟨tg, iter, ifs, 0⟩] scope pos) (some (.Name y py)) spos.line X.env = pure true) (hi : PI X tg iter (TIs X.K W f)) (ok : BlkOk X.N X.env.scope scope own) (hG : GOk X.K g G) (hv : GIn g (own.map (·.2)))
    (hg : ∀ (s : Shared) (H : Hp) (C : Addr) (cl : List (Str × Addr)) (fp : List Addr), PG (X.blk s H scope (compEnvC scope cl C X.env) fp) tg g)
    (ht : ∀ (s : Shared) (H : Hp) (C : Addr) (cl : List (Str × Addr)) (fp : List Addr), PTs (X.blk s H scope (compEnvC scope cl C X.env) fp) ifs (TB X.K noW t))
    (he : ∀ (s : Shared) (H : Hp) (C : Addr) (cl : List (Str × Addr)) (fp : List Addr), PE (X.blk s H scope (compEnvC scope cl C X.env) fp) elt (T X.K noW e)) (hs : ∀ x, foldedSetIterable iter X.env x = pure x := by intro _; rfl) :
    PS X (.Assign [.Name y py] (.ListComp elt [⟨tg, iter, ifs, 0⟩] scope pos) spos) (TSt X.K W (ownS i (lcE f (own.map (·.2)) G t e))) :=
  PS.imp (ps_setLc hc hN hy hyl hsw hi ok hg ht he hs) fun D σ H q => by
    obtain ⟨S0, H0, S, ρ, R, p⟩ := q
    refine t_lc hG hv (W := W) (Q := fun x H1 => gName i x σ H1 D.nx) ?_
    refine t_then R p fun d v S' H' ex R' r p => ?_
    cases d with
    | new ds => exact p _ S' H' (R.setNew ex r)
    | _ => exact p.elim
theorem pts_none (X : Cx) : PTs X [] (TB X.K noW yesB) := ⟨fun pins s σ H Q I h => by
    obtain ⟨S0, H0, S, ρ, R, p⟩ := h
    exact pts_nil.run pins s σ H Q I (p S H (Ext.refl R.sh))⟩
theorem pts_1 {c : Expr} (h : PT X c (TB X.K noW t)) : PTs X [c] (TB X.K noW t) := pts_one h
end
end DL

namespace DL
open PySem L2
open PySem.Spec PyProof.Rows

/-! ### defs, with no repr running around them -/
/-- the def at f keeps the promise sp where no repr is being made (the guards are none) -/
structure FnG (P : Program) (w : World) (K : PySem.W.Frag) (mg : Str → Option Value) (base : Heap) (k : Nat) (f : Addr) (fd : FuncData) (ps : List Str) (sp : Sp) : Prop where
  len : ∀ vs H Q E, sp vs H Q E → vs.length = ps.length
  run : ∀ (A : Around) (outer : List Env) (s : Shared) (H : Hp) (args : Args) (us : List Value) (vs : List V) (Q : VK) (E : XK), Room k A → A.guards = some [] → Env0 P w K mg base A outer s H →
    BindsTo s fd args (ps.zip us) → Vals vs us → sp vs H Q E → codeAny (model P w) A (.call (.ref f) args) (CR (L2.CX P w) outer P w H s Q E) s
section
variable {P : Program} {w : World} {K : PySem.W.Frag} {mg : Str → Option Value} {base : Heap} {k : Nat} {f : Addr}
theorem fnG_of {name qual : Str} {params : Arguments} {body : List Stmt} {scope : Scope} {dV kV doc pm cdv ct oc : Value} {an od : Option Addr} {osl : Array (Option Value)} {N ps : List Str} {sp : Sp}
    (lk : K.lookup f = some ⟨oc, od, .func (PySem.W.fnOf name qual params body scope dV kV doc pm an cdv ct), osl⟩) (hcd : PySem.W.codeIn K cdv qual = true) (Sc : FnScope N ps scope) (hlen : ∀ vs H Q E, sp vs H Q E → vs.length = ps.length)
    (hbody : ∀ (A : Around) (outer : List Env) (s : Shared) (H : Hp) (vs : List V) (Q : VK) (E : XK), Room k (A.deeper (envOfC qual scope s.heap.objs.size f cdv)) → A.guards = some [] → sp vs H Q E →
      ∃ t, PSs (cxOf (L2.CX P w) P w K mg base N qual scope f cdv A outer s H E) body t ∧ t { nx := fun _ H' => Q .non H', rt := Q } (L2.start N vs) H) :
    FnG P w K mg base (k + 1) f (PySem.W.fnOf name qual params body scope dV kV doc pm an cdv ct) ps sp where
  len := hlen
  run := by
    intro A outer s H args us vs Q E room gd env bnd rel prom
    have count := hlen _ _ _ _ prom
    have there : K.In s.heap := env.mod.kin.keeps fun b o q => (env.bs b o q).1
    have lim : s.heap.NoLimit := env.mod.nolimit.keeps fun b o q => (env.bs b o q).1
    have kinds : ∀ y ∈ ps.zip us, scope.names.lookup y.1 = some .local ∨ (scope.names.lookup y.1 = some .cell ∧ ((cellsFrom (s.heap.objs.size + 1) scope.names []).lookup y.1).isSome = true) := by
      rintro ⟨n, v⟩ hy
      exact (Sc.par n (List.of_mem_zip hy).1).imp id fun q => ⟨q, PySem.W.cellsFrom_some _ _ _ (.inl q)⟩
    refine codeAny_call_function room.depth (there _ _ lk) rfl Sc.co Sc.gen rfl (PySem.W.codeRec_of there hcd) (bnd _ _ _ _ ?_)
    refine wpAny_newFunctionEnv_cells Sc.kind kinds fun env' he s1 x => ?_
    subst he
    refine ⟨lim.keeps x.toInCall.keep, codeAny_func ?_⟩
    obtain ⟨t, ht, q⟩ := hbody A outer s H vs Q E (room.deeper _) gd prom
    have I := inv_start (CX := L2.CX P w) (E := E) (f := f) (qual := qual) (mg := mg) (cd := cdv) Sc room.hd env count rel x
    have close : ∀ {σ' : L2.St} {H' : Hp} {v : V} {u : Value} {s' : Shared}, Inv (cxOf (L2.CX P w) P w K mg base N qual scope f cdv A outer s H E) [] σ' H' s' → RelV v u → Q v H' → CE outer P w H s Q u s' :=
      fun J rv q => ⟨_, _, J.os, J.bare, J.base, J.hok, rv, q⟩
    refine wpAny_mono (ht.run [] s1 (L2.start N vs) H _ I q) (fun fl s' done => ?_) fun _ _ h => h
    cases fl with
    | brk => obtain ⟨_, _, _, z⟩ := done; exact z.elim
    | cont => obtain ⟨_, _, _, z⟩ := done; exact z.elim
    | next =>
      obtain ⟨_, H', J, z⟩ := done
      exact close (v := V.non) (u := Value.none) J rfl z
    | ret u =>
      obtain ⟨v, _, H', J, rv, z⟩ := done
      exact close J rv z
end
section
variable {X : Cx} {k : Nat} {f C : Addr} {fd : FuncData} {ps : List Str} {sp : Sp} {W : WX} {x m : Str} {p pos apos : Pos} {e o : Expr} {es : List Expr} {ta : TE} {t : TA}
theorem run_fnG {pins : List (Addr × Obj)} {σ : L2.St} {H : Hp} {s : Shared} {Q : VK} {us : List Value} {vs : List V} (F : FnG X.prog X.w X.K X.mg X.base k f fd ps sp) (hr : Room k X.A) (gd : X.A.guards = some []) (hb : Binds X.K fd ps []) (tk : Takes X W)
    (I : Inv X pins σ H s) (r : Vals vs us) (h : sp vs H Q (WE W σ)) : wpAny (model X.prog X.w) X.A (call (.ref f) us) (EP X pins σ Q) X.xe s := by
  have count : (us ++ []).length = ps.length := by rw [List.append_nil, ← r.length]; exact F.len _ _ _ _ h
  have bnd := hb s us I.kIn count
  rw [List.append_nil] at bnd
  refine wpAny_call (codeAny_mono (F.run X.A X.stack s H _ us vs Q (WE W σ) hr gd I.env0 bnd r h) fun res s' q => ?_)
  match res, q with
  | .error u, q => exact passAt tk σ pins H s u s' I q
  | .ok (.ret u), q => exact I.after q
def tCallG (sp : Sp) (W : WX) (t : TA) : TE := fun σ H Q => t σ H fun vs H1 => sp vs H1 Q (WE W σ)
theorem pe_callG (F : FnG X.prog X.w X.K X.mg X.base k f fd ps sp) (hr : Room k X.A) (gd : X.A.guards = some []) (hg : Gl X x) (hm : X.mg x = some (.ref f)) (hk : PySem.W.keepIn X.K (.ref f) = true) (hb : Binds X.K fd ps []) (tk : Takes X W)
    (ha : PA X (e :: es) t) (hdb : (x == ("__debug__" : Str)) = false := by decide) (he : starEach (e :: es) X.env = (false, eval e X.env) :: starEach es X.env := by rfl) (hpl : (backTo pos (starEach es X.env)).any (·.1) = false := by rfl) :
    PE X (.Call (.Name x p) (e :: es) [] pos) (tCallG sp W t) where
  run := fun pins s σ H Q I h => wpAny_Call_Name_kw (ld_glob I hg hm (PySem.W.callWith_K (h₀ := X.base) I.ok.mod.kin hk
    (thn (ha.run pos pins s σ H _ I h) fun us s1 ⟨vs, H1, I1, r, q⟩ => ⟨I1.kIn, run_fnG F hr gd hb tk I1 r q⟩) he hpl) hdb)
theorem pe_callG0 (F : FnG X.prog X.w X.K X.mg X.base k f fd ps sp) (hr : Room k X.A) (gd : X.A.guards = some []) (hg : Gl X x) (hm : X.mg x = some (.ref f)) (hk : PySem.W.keepIn X.K (.ref f) = true) (hb : Binds X.K fd ps []) (tk : Takes X W)
    (hdb : (x == ("__debug__" : Str)) = false := by decide) : PE X (.Call (.Name x p) [] [] pos) (tCallG sp W tNil) where
  run := fun pins s σ H Q I h => wpAny_Call_Name_kw (ld_glob I hg hm (PySem.W.callWith_K0 I.kIn hk (run_fnG (us := []) F hr gd hb tk I .nil h)) hdb)
end

/-! ### the promise: what it makes of data -/
def spD (K : PySem.W.Frag) (n : Nat) (F : List D → Res D) : Sp := fun vs H Q E => vs.length = n ∧ ∃ S ds, Same S H ∧ RpAll K S vs ds ∧ (match F ds with
  | .ok d => ∀ v S' H', Ext S H S' H' → Rv K H S' H' v d → Q v H'
  | .err x => ∀ dd S' H', Ext S H S' H' → XAt x dd H' → E x.cls dd H'
  | .st => False)
def runF (m : Nat) (f : Es) : List D → Res D := fun ds => match f (ds.map Slot.v ++ List.replicate m .un) with
  | .rt d => .ok d
  | .nx _ => .ok .non
  | .er x _ => .err x
  | _ => .st
theorem start_rel {K : PySem.W.Frag} {S H : Hp} {N : List Str} {vs : List V} {ds : List D} {m : Nat} (hs : Same S H) (r : RpAll K S vs ds) (hN : N.length = vs.length + m) : Rel K S H S H (L2.start N vs) (ds.map Slot.v ++ List.replicate m .un) := by
  have hm : N.length - vs.length = m := by omega
  have hl := r.length
  unfold L2.start
  rw [hm]
  refine ⟨Ext.refl hs, by simp [hl], fun i s e => ?_, fun i j l fs es n e1 e2 e3 e4 => ?_⟩
  · rw [List.getElem?_append] at e
    rw [List.getElem?_append]
    rw [List.length_map] at e ⊢
    rw [hl]
    split at e
    · rename_i h
      rw [if_pos h]
      rw [List.getElem?_map] at e ⊢
      cases e2 : ds[i]? with
      | none => rw [e2] at e; cases e
      | some d =>
        rw [e2] at e
        cases e
        obtain ⟨v, h1, h2⟩ := r.get e2
        rw [h1]
        exact ⟨_, rfl, v, rfl, h2⟩
    · rename_i h
      rw [if_neg h]
      rw [List.getElem?_replicate] at e ⊢
      split at e
      · rename_i h2
        cases e
        rw [if_pos h2]
        exact ⟨_, rfl, trivial⟩
      · cases e
  · rw [List.getElem?_append] at e1
    split at e1
    · rw [List.getElem?_map] at e1
      cases e5 : ds[i]? with
      | none => rw [e5] at e1; cases e1
      | some d => rw [e5] at e1; cases e1
    · rw [List.getElem?_replicate] at e1
      split at e1 <;> cases e1
/-- a def of the module by its name: what it makes of data -/
structure Def (P : Program) (w : World) (K : PySem.W.Frag) (mg : Str → Option Value) (base : Heap) (x : Str) (k n : Nat) (F : List D → Res D) : Prop where
  ex : ∃ (f : Addr) (fd : FuncData) (ps : List Str), FnG P w K mg base k f fd ps (spD K n F) ∧ mg x = some (.ref f) ∧ PySem.W.keepIn K (.ref f) = true ∧ Binds K fd ps []
/-- where a def of the text stands -/
structure At (K : PySem.W.Frag) (mg : Str → Option Value) (x : Str) (st : Stmt) (ps : List Str) : Prop where
  ex : ∃ (f : Addr) (fd : FuncData), Fun K x x st f fd ∧ mg x = some (.ref f) ∧ ∀ us : List Value, us.length = ps.length → bindArgs fd ⟨us, []⟩ = pure (ps.zip us)
theorem At.mk' {K : PySem.W.Frag} {h : Heap} {mg : Str → Option Value} {x : Str} {st : Stmt} {ps : List Str} {f : Addr} {oc : Value} {od an : Option Addr} {osl : Array (Option Value)} {kV doc pm cdv ct : Value} (X : K.In h) (G : h.Ns mainGlobals mg)
    (a : PySem.W.nsIn K mainGlobals x = some (some (.ref f))) (l : K.lookup f = some ⟨oc, od, .func (PySem.W.fnOf x x (defArgs st) (defBody st) (defScope st) .none kV doc pm an cdv ct), osl⟩)
    (c : PySem.W.codeIn K cdv x = true) (k : PySem.W.keepIn K (.ref f) = true)
    (b : ∀ (kV doc pm : Value) (an : Option Addr) (cdv ct : Value) (us : List Value), us.length = ps.length → bindArgs (PySem.W.fnOf x x (defArgs st) (defBody st) (defScope st) .none kV doc pm an cdv ct) ⟨us, []⟩ = pure (ps.zip us)) : At K mg x st ps :=
  ⟨f, _, fun_mk l c k, PySem.W.mg_of X G a, b kV doc pm an cdv ct⟩
section
variable {P : Program} {w : World} {K : PySem.W.Frag} {mg : Str → Option Value} {base : Heap}
theorem spD_run {N ps : List Str} {m k : Nat} {qual : Str} {st : Stmt} {f : Addr} {fd : FuncData} {fb : Es} (F : Fun K qual qual st f fd) (S : FnScope N ps (defScope st)) (hm : N.length = ps.length + m)
    (hb : ∀ (f : Addr) (cdv : Value) (A : Around) (outer : List Env) (s : Shared) (H : Hp) (E : XK), Room k (A.deeper (envOfC qual (defScope st) s.heap.objs.size f cdv)) → A.guards = some [] →
      PSs (cxOf (L2.CX P w) P w K mg base N qual (defScope st) f cdv A outer s H E) (defBody st) (TSt K (fun cls d _ H' => E cls d H') fb)) : FnG P w K mg base (k + 1) f fd ps (spD K ps.length (runF m fb)) := by
  obtain ⟨oc, od, kV, doc, pm, an, cdv, ct, osl, rfl, lk, hcd⟩ := F.ex
  refine fnG_of lk hcd S (fun vs H Q E h => h.1) fun A outer s H vs Q E hr gd h => ⟨_, hb f cdv A outer s H E hr gd, ?_⟩
  obtain ⟨hn, S1, ds, hs, r, q⟩ := h
  refine ⟨S1, H, S1, _, start_rel hs r (by rw [hn]; exact hm), ?_⟩
  unfold runF at q
  cases e : fb (ds.map Slot.v ++ List.replicate m .un) with
  | rt d => rw [e] at q; exact q
  | nx ρ => rw [e] at q; exact fun σ S' H' R => q _ S' H' R.ex (rp_new .non)
  | er x ρ => rw [e] at q; exact fun dd σ S' H' R hx => q dd S' H' R.ex hx
  | bk ρ => rw [e] at q; exact q.elim
  | ct ρ => rw [e] at q; exact q.elim
  | st => rw [e] at q; exact q.elim
theorem Def.of {N ps : List Str} {m k : Nat} {x : Str} {st : Stmt} {fb : Es} (a : At K mg x st ps) (S : FnScope N ps (defScope st)) (hm : N.length = ps.length + m)
    (hb : ∀ (f : Addr) (cdv : Value) (A : Around) (outer : List Env) (s : Shared) (H : Hp) (E : XK), Room k (A.deeper (envOfC x (defScope st) s.heap.objs.size f cdv)) → A.guards = some [] →
      PSs (cxOf (L2.CX P w) P w K mg base N x (defScope st) f cdv A outer s H E) (defBody st) (TSt K (fun cls d _ H' => E cls d H') fb)) : Def P w K mg base x (k + 1) ps.length (runF m fb) := by
  obtain ⟨f, fd, F, hm', hb'⟩ := a.ex
  exact ⟨f, fd, ps, spD_run F S hm hb, hm', F.kp, .all hb'⟩
theorem lawOf {N : List Str} {p : Str} {m k : Nat} {x : Str} {st : Stmt} {fb : Es} {fa : Addr} (a : At K mg x st [p]) (hfa : mg x = some (.ref fa)) (S : FnScope N [p] (defScope st)) (hm : N.length = 1 + m)
    (hb : ∀ (base : Heap) (f : Addr) (cdv : Value) (A : Around) (outer : List Env) (s : Shared) (H : Hp) (E : XK), Room k (A.deeper (envOfC x (defScope st) s.heap.objs.size f cdv)) → A.guards = some [] →
      PSs (cxOf (L2.CX P w) P w K mg base N x (defScope st) f cdv A outer s H E) (defBody st) (TSt K (fun cls d _ H' => E cls d H') fb)) :
    ∃ fd : FuncData, (∀ (s : Shared) (u : Value), BindsTo s fd ⟨[u], []⟩ [(p, u)]) ∧ ∀ base : Heap, K.In base → base.Ns mainGlobals mg → FnG P w K mg base (k + 1) fa fd [p] (spD K 1 (runF m fb)) := by
  obtain ⟨f, fd, F, hm', hb'⟩ := a.ex
  rw [hfa] at hm'
  cases hm'
  exact ⟨fd, fun s u => .of_eq (hb' [u] rfl), fun base _ _ => spD_run F S hm (hb base)⟩
end
def callE (n : Nat) (F : List D → Res D) (fs : Ea) : Ev := fun ρ => (fs ρ).bind fun ds => if ds.length = n then F ds else .st
section
variable {X : Cx} {W : WX} {x : Str} {k n : Nat} {F : List D → Res D} {fs : Ea} {e : Expr} {es : List Expr} {p pos : Pos}
theorem t_call {K : PySem.W.Frag} {σ : L2.St} {H : Hp} {Q : VK} (h : T K W (callE n F fs) σ H Q) : tCallG (spD K n F) W (TAs K W fs) σ H Q := by
  obtain ⟨S0, H0, S, ρ, R, p⟩ := h
  refine ⟨S0, H0, S, ρ, R, ?_⟩
  unfold callE at p
  cases e : fs ρ with
  | err y => rw [e] at p; exact p
  | st => rw [e] at p; exact p
  | ok ds =>
    rw [e] at p
    simp only [bind_ok] at p
    by_cases hl : ds.length = n
    · rw [if_pos hl] at p
      intro vs S1 H1 ex r
      refine ⟨by rw [r.length]; exact hl, S1, ds, ex.sh, r, ?_⟩
      cases ef : F ds with
      | ok d => rw [ef] at p; exact fun v S2 H2 e2 r2 => p v S2 H2 (ex.trans e2) (r2.pre ex.hh)
      | err y => rw [ef] at p; exact fun dd S2 H2 e2 hx => p dd S2 H2 (ex.trans e2) hx
      | st => rw [ef] at p; exact p
    · rw [if_neg hl] at p; exact p.elim
theorem d_call {j : Nat} (G : Def X.prog X.w X.K X.mg X.base x k n F) (hr : Room j X.A) (hj : k ≤ j) (gd : X.A.guards = some []) (tk : Takes X W) (ha : PA X (e :: es) (TAs X.K W fs)) (hg : Gl X x := by rfl) (hdb : (x == ("__debug__" : Str)) = false := by decide)
    (he : starEach (e :: es) X.env = (false, eval e X.env) :: starEach es X.env := by rfl) (hpl : (backTo pos (starEach es X.env)).any (·.1) = false := by rfl) : PE X (.Call (.Name x p) (e :: es) [] pos) (T X.K W (callE n F fs)) := by
  obtain ⟨f, fd, ps, G, hm, hk, hb⟩ := G.ex
  exact PE.imp (pe_callG G (hr.mono hj) gd hg hm hk hb tk ha hdb he hpl) fun _ _ _ h => t_call h
theorem d_call0 {j : Nat} (G : Def X.prog X.w X.K X.mg X.base x k n F) (hr : Room j X.A) (hj : k ≤ j) (gd : X.A.guards = some []) (tk : Takes X W) (hg : Gl X x := by rfl) (hdb : (x == ("__debug__" : Str)) = false := by decide) :
    PE X (.Call (.Name x p) [] [] pos) (T X.K W (callE n F nilA)) := by
  obtain ⟨f, fd, ps, G, hm, hk, hb⟩ := G.ex
  refine PE.imp (pe_callG0 G (hr.mono hj) gd hg hm hk hb tk hdb) fun σ H Q h => ?_
  obtain ⟨S0, H0, S, ρ, R, p⟩ := t_call h
  exact p [] S H (Ext.refl R.sh) .nil
end

/-! ### the end: the law's def, called upon the script -/
theorem lawG {l : PySem.W.OpenLaw} {n k : Nat} {q : Program} {loose : List Str} {XP : (Str → Option Value) → Heap → Prop} {YP : World → Heap → Prop} {d : DefRec} {K : Params → PySem.W.Frag} {x : Str}
    (hn : l.most = some n) (hn2 : n ≤ sizeLine) (hdf : d.params.defaults = []) (hr : Room k callerA) (hY : ∀ (w : World) (h : Heap), YP w h → (K w.params).In h)
    (hF : ∀ (w : World) (mg : Str → Option Value) (fa : Addr) (h : Heap), (K w.params).In h → h.Ns mainGlobals mg → mg d.name = some (.ref fa) →
      ∃ F : List D → Res D, (∀ ns : List Int, ns.length ≤ n → F [.frz ns] = .ok (.bl true)) ∧ ∃ fd : FuncData, (∀ (s : Shared) (u : Value), BindsTo s fd ⟨[u], []⟩ [(x, u)]) ∧ ∀ base : Heap, (K w.params).In base → base.Ns mainGlobals mg → FnG l.prog w (K w.params) mg base k fa fd [x] (spD (K w.params) 1 F)) : PySem.W.WalkO q loose XP YP l.row.toRowW d [] (fun f vs => PySem.call f vs) := by
  refine Att.attach_call hn hdf fun w s₀ s mg mb fa o pm cd doc a vs ns G Y _ _ _ hmg hobj hints hlen hgen => ?_
  have KX := hY w _ Y
  obtain ⟨F, hT, fd, hbind, hfn⟩ := hF w mg fa _ KX G.T.g hmg
  have small : ns.length ≤ sizeLine := Nat.le_trans hlen hn2
  have val := vals_ints hints
  have nvs := hints.length
  generalize K w.params = Kw at KX hfn
  -- what is tracked: the script alone, if it is no object of the module
  have main : ∀ H : Hp, SqL Kw H a (ns.map V.int) → HOk l.prog w H s.heap → (∀ b u, H b = some u → b = a ∧ (∃ ob zs, u = .frz ob (.lst zs)) ∧ Kw.lookup a = none) →
      codeAny (model l.prog w) callerA (.call (.ref fa) ⟨[.ref a], []⟩) (fun r s' => r = .ok (.ret (.bool true)) ∧ OldK s.heap s'.heap ∧ s'.os = s.os ∧ AllBare s'.gens) s := by
    intro H hS hok only
    have up : ∀ {b : Addr} {ob : Obj}, s.heap.get? b = some ob → (b = a → Kw.lookup a ≠ none) → (hidT s.heap H).get? b = some ob := fun {b ob} e ne => by
      refine hidT_get e ?_
      cases q : H b with
      | none => rfl
      | some u =>
        obtain ⟨h1, _, h3⟩ := only b u q
        exact (ne h1 h3).elim
    have dicts : ∀ {b : Addr} {m : Str → Option Value}, s.heap.Ns b m → (hidT s.heap H).Ns b m := by
      rintro b m ⟨ob, es, ep, e, hd, rest⟩
      refine ⟨ob, es, ep, hidT_get e ?_, hd, rest⟩
      cases q : H b with
      | none => rfl
      | some u =>
        obtain ⟨rfl, _, _⟩ := only b u q
        rw [hobj] at e
        cases e
        cases hd
    have kin : Kw.In (hidT s.heap H) := fun b ob e => up (KX b ob e) fun z => by rw [z] at e; rw [e]; exact fun y => by cases y
    have lim : (hidT s.heap H).NoLimit := by
      obtain ⟨mc, z1, z2⟩ := G.T.nolimit
      exact ⟨mc, dicts z1, z2⟩
    have env : Env0 l.prog w Kw mg (hidT s.heap H) callerA [] s H :=
      { frames := rfl, mod := ⟨kin, dicts G.T.g, ⟨mb, dicts G.T.b, G.T.builtins⟩, lim⟩, bs := fun b ob e => of_hidT e, bsz := Nat.le_of_eq (hidT_size _ _), funs := trivial, frf := fun b hb => (by cases hb), hok := hok, bare := .of_eq hgen }
    have prom : spD Kw 1 F [.ref a] H (fun v _ => v = .bl true) (fun _ _ _ => False) := by
      refine ⟨rfl, H, [.frz ns], Same.refl _, .cons (.frz hS) .nil, ?_⟩
      rw [hT ns hlen]
      intro v S' H' ex r
      cases (show Rp Kw S' v (.bl true) from r)
      rfl
    refine codeAny_mono ((hfn _ kin (dicts G.T.g)).run callerA [] s H _ [.ref a] [.ref a] _ _ hr rfl env (hbind s (.ref a)) (.cons rfl .nil) prom) fun res s' h => ?_
    match res, h with
    | .error u, h =>
      obtain ⟨_, _, _, _, _, _, _, _, _, _, _, _, z⟩ := h
      exact z.elim
    | .ok (.ret u), h =>
      obtain ⟨v, H', os, bare, un, hok', rv, hv⟩ := h
      have hv : v = .bl true := hv
      subst hv
      cases rv
      refine ⟨rfl, OldK.of_keep fun b ob e => ?_, os, bare⟩
      cases q : H b with
      | none => exact un.keep b ob e q (by intro z; cases z) (by intro z; cases z)
      | some u =>
        obtain ⟨_, ⟨ob2, zs, rfl⟩, _⟩ := only b u q
        have now := hok' b _ (un.frzs b ob2 _ q)
        have ahead := hok b _ q
        obtain ⟨g1, _⟩ := ahead
        obtain ⟨g2, _⟩ := now
        rw [e] at g1
        cases g1
        exact g2
  cases own : Kw.lookup a with
  | some ob =>
    have there := KX a ob own
    rw [hobj] at there
    cases there
    refine main (fun _ => none) (.inr ⟨_, vs.toArray, _, own, rfl, rfl, rfl, ?_, ?_⟩) (fun b u z => by cases z) fun b u z => by cases z
    · rw [List.size_toArray, nvs]; exact small
    · simpa using val
  | none =>
    refine main (fun b => if b = a then some (.frz { cls := .type "list", data := .seq vs.toArray } (.lst (ns.map V.int))) else none) (.inl (.inr ⟨_, if_pos rfl⟩)) (fun b u z => ?_) fun b u z => ?_
    · by_cases hb : b = a
      · obtain rfl := Option.some.inj ((if_pos hb).symm.trans z)
        subst hb
        exact ⟨hobj, by rw [List.length_map]; exact small, vs, _, val, hobj⟩
      · exact absurd ((if_neg hb).symm.trans z) (by intro y; cases y)
    · by_cases hb : b = a
      · obtain rfl := Option.some.inj ((if_pos hb).symm.trans z)
        exact ⟨hb, ⟨_, _, rfl⟩, own⟩
      · exact absurd ((if_neg hb).symm.trans z) (by intro y; cases y)
end DL

namespace DL
open PySem L2

/-! ### a < b < c -/
def chE (g g' : D → D → Option D) (fa fb fc : Ev) : Ev := fun ρ => (fa ρ).bind fun x => (fb ρ).bind fun y => (ofO ((g x y).bind blO)).bind fun k => if k = true then (fc ρ).bind fun w => ofO (g' y w) else .ok (.bl false)
section
variable {X : Cx} {W : WX} {a b c : Expr} {fa fb fc : Ev} {g g' : D → D → Option D} {r r' : R2} {pos : Pos}
theorem t_ch {K : PySem.W.Frag} (hg : Serves2 K g r) (hg' : Serves2 K g' r') {σ : St} {H : Hp} {Q : VK} (h : T K W (chE g g' fa fb fc) σ H Q) : tChain r r' (T K W fa) (T K W fb) (T K W fc) σ H Q := by
  obtain ⟨S0, H0, S, ρ, R, p⟩ := h
  refine ⟨S0, H0, S, ρ, R, ?_⟩
  unfold chE at p
  cases ea : fa ρ with
  | err x => rw [ea] at p; exact p
  | st => rw [ea] at p; exact p
  | ok dx =>
    rw [ea] at p
    intro v S1 H1 e1 r1
    refine ⟨S0, H0, S1, ρ, R.ext e1, ?_⟩
    have p1 := p.ext e1
    simp only [bind_ok] at p1
    cases eb : fb ρ with
    | err x => rw [eb] at p1; exact p1
    | st => rw [eb] at p1; exact p1
    | ok dy =>
      rw [eb] at p1
      simp only [bind_ok] at p1
      intro w S2 H2 e2 r2
      have ra := (r1.rr e1.sh).mono e2.ss e2.hh
      have rb := r2.rr e2.sh
      refine hg S2 H2 v w dx dy _ e2.sh ra rb ?_
      have p2 := p1.ext e2
      cases eg : g dx dy with
      | none => rw [eg] at p2; exact p2
      | some z =>
        rw [eg] at p2
        cases z with
        | bl k =>
          intro u S3 H3 e3 r3
          cases r3
          refine ⟨k, rfl, ?_⟩
          have p3 := p2.ext e3
          cases k with
          | false => exact p3 _ S3 H3 (Ext.refl e3.sh) (.bl false)
          | true =>
            refine ⟨S0, H0, S3, ρ, ((R.ext e1).ext e2).ext e3, ?_⟩
            have p3 : PostD K W S3 H3 σ ((fc ρ).bind fun w => ofO (g' dy w)) Q := p3
            cases ec : fc ρ with
            | err x => rw [ec] at p3; exact p3
            | st => rw [ec] at p3; exact p3
            | ok dw =>
              rw [ec] at p3
              intro u4 S4 H4 e4 r4
              exact hg' S4 H4 w u4 dy dw Q e4.sh (rb.mono (e3.trans e4).ss (e3.trans e4).hh) (r4.rr e4.sh) (PostD.o (p3.ext e4))
        | _ => exact p2.elim
theorem d_chain {op op' : CmpOp} (ho : OpR X (compareOp op) r) (ho' : OpR X (compareOp op') r') (hg : Serves2 X.K g r) (hg' : Serves2 X.K g' r') (ha : PE X a (T X.K W fa)) (hb : PE X b (T X.K W fb)) (hc : PE X c (T X.K W fc))
    (hm : lastMarks [op, op'] [b, c] = false := by with_unfolding_all rfl) : PE X (.Compare a [op, op'] [b, c] pos) (T X.K W (chE g g' fa fb fc)) := PE.imp (pe_chain ho ho' ha hb hc hm) fun _ _ _ h => t_ch hg hg' h
theorem d_lele (ha : PE X a (T X.K W fa)) (hb : PE X b (T X.K W fb)) (hc : PE X c (T X.K W fc)) (hm : lastMarks [CmpOp.LtE, CmpOp.LtE] [b, c] = false := by with_unfolding_all rfl) :
    PE X (.Compare a [.LtE, .LtE] [b, c] pos) (T X.K W (chE leD leD fa fb fc)) := d_chain op_le op_le leD_ok leD_ok ha hb hc hm
theorem t_chn {op op' : CmpOp} (ho : OpR X (compareOp op) r) (ho' : OpR X (compareOp op') r') (hg : Serves2 X.K g r) (hg' : Serves2 X.K g' r') (ha : PE X a (T X.K W fa)) (hb : PE X b (T X.K W fb)) (hc : PE X c (T X.K W fc))
    (hm : lastMarks [op, op'] [b, c] = false := by with_unfolding_all rfl) : PT X (.Compare a [op, op'] [b, c] pos) (TB X.K W (tst0 (chE g g' fa fb fc))) := PT.imp (pt_chain ho ho' ha hb hc hm) fun σ H Q h => by
  obtain ⟨S0, H0, S, ρ, R, p⟩ := h
  refine t_ch hg hg' ⟨S0, H0, S, ρ, R, ?_⟩
  unfold tst0 at p
  cases e : chE g g' fa fb fc ρ with
  | ok d =>
    rw [e] at p
    cases d with
    | bl k => exact fun v S' H' ex r => by cases r; exact ⟨k, rfl, p S' H' ex⟩
    | _ => exact p.elim
  | err x => rw [e] at p; exact p
  | st => rw [e] at p; exact p
theorem t_lele (ha : PE X a (T X.K W fa)) (hb : PE X b (T X.K W fb)) (hc : PE X c (T X.K W fc)) (hm : lastMarks [CmpOp.LtE, CmpOp.LtE] [b, c] = false := by with_unfolding_all rfl) :
    PT X (.Compare a [.LtE, .LtE] [b, c] pos) (TB X.K W (tst0 (chE leD leD fa fb fc))) := t_chn op_le op_le leD_ok leD_ok ha hb hc hm
end

/-! ### isinstance -/
def tyOf : D → Option Value
  | .non => some (.type "NoneType")
  | .bl _ => some (.type "bool")
  | .int _ => some (.type "int")
  | .str _ => some (.type "str")
  | .lst _ | .new _ | .bor _ => some (.type "list")
  | .tup _ => some (.type "tuple")
  | _ => none
def isiE (kit : Value → Option Bool) (f : Ev) : Ev := e1 (fun d => ((tyOf d).bind kit).map .bl) f
/-- the answers of a built-in class -/
def kitT (T : String) : Value → Option Bool
  | .type a => kitB a T
  | _ => none
theorem kitT_ok {K : PySem.W.Frag} {T : String} : ∀ t b, kitT T t = some b → PySem.W.kitOne K t (.type T) = some b := by
  intro t b h
  cases t with
  | type a => exact kit_ty h
  | _ => cases h
theorem ty_ok {K : PySem.W.Frag} {S H : Hp} {v : V} {d : D} {t : Value} (hs : Same S H) (r : Rr K S H v d) (e : tyOf d = some t) : TyX K H v t := by
  cases d with
  | non => cases r; cases e; exact .base .non
  | bl b => cases r; cases e; exact .base (.bl b)
  | int b => cases r; cases e; exact .base (.int b)
  | str b => cases r; cases e; exact .base (.str b)
  | lst ds => obtain ⟨a, xs, rfl, h, _⟩ := r; cases e; exact .base (.lst h)
  | new ds => obtain ⟨a, xs, rfl, h, _⟩ := r; cases e; exact .base (.lst h)
  | bor ds => obtain ⟨a, xs, rfl, h, _⟩ := r; cases e; exact .base (.lst h)
  | tup ds =>
    cases r with
    | tup h q =>
      cases e
      rcases Same.seqT hs h with h | ⟨o, its, n, h1, h2, _⟩
      · rcases h with h | ⟨o, h⟩
        · exact .base (.tup h)
        · exact .fTuple h
      · exact .kTuple h1 h2
  | frz ns => cases e
  | obj C fs => cases e
section
variable {X : Cx} {W : WX} {a : Expr} {f : Ev} {p p2 pos : Pos} {T1 T2 : String}
theorem t_isi {K : PySem.W.Frag} {kit : Value → Option Bool} {c : V} {u : Value} (hc : ClsV c u) (hk : ∀ t b, kit t = some b → PySem.W.kitOne K t u = some b) {σ : St} {H : Hp} {Q : VK} (h : T K W (isiE kit f) σ H Q) :
    tCB (rIsi K) (tCons (T K W f) (tCons (tC c) tNil)) σ H Q := by
  refine t_e1 (r := fun v H1 Q => rIsi K [v, c] H1 Q) (fun S H v dx Q hs r p => ?_) h
  cases e : tyOf dx with
  | none => rw [e] at p; exact p.elim
  | some t =>
    rw [e] at p
    simp only [Option.bind_some] at p
    cases e2 : kit t with
    | none => rw [e2] at p; exact p.elim
    | some b =>
      rw [e2] at p
      exact ⟨v, c, t, u, b, rfl, hc, ty_ok hs r e, hk t b e2, p.val hs (.bl b)⟩
/-- isinstance(a, T), T a built-in class -/
theorem d_isi (hm : X.mg "isinstance" = none) (hT : X.mg (Str.ofString T1) = none) (hv : bootBuiltins (Str.ofString T1) = some (.type T1)) (ha : PE X a (T X.K W f)) (hg : Gl X "isinstance" := by rfl) (hgT : Gl X (Str.ofString T1) := by rfl)
    (hn2 : (Str.ofString T1) ≠ "__name__" := by decide) (hd2 : ((Str.ofString T1) == ("__debug__" : Str)) = false := by decide)
    (h1 : starEach [a, .Name (Str.ofString T1) p2] X.env = (false, eval a X.env) :: starEach [.Name (Str.ofString T1) p2] X.env := by rfl)
    (h2 : starEach [.Name (Str.ofString T1) p2] X.env = (false, eval (.Name (Str.ofString T1) p2) X.env) :: starEach [] X.env := by rfl)
    (hpl : (backTo pos (starEach [.Name (Str.ofString T1) p2] X.env)).any (·.1) = false := by rfl) :
    PE X (.Call (.Name "isinstance" p) [a, .Name (Str.ofString T1) p2] [] pos) (T X.K W (isiE (kitT T1) f)) :=
  PE.imp (pe_callB call_isi hg hm (by decide +kernel) (pa_cons ha (pa_cons (pe_bltn (v := .ty T1) hgT hT hv rfl hn2 hd2) pa_nil h2) h1) (by decide) (by decide) h1 hpl) fun _ _ _ h => t_isi (.ty T1) kitT_ok h
/-- isinstance(a, (T1, T2)) -/
def kitT2 (T1 T2 : String) : Value → Option Bool := fun t => match kitT T1 t with
  | some true => some true
  | some false => kitT T2 t
  | none => none
theorem t_isi2 {K : PySem.W.Frag} {σ : St} {H : Hp} {Q : VK} (h : T K W (isiE (kitT2 T1 T2) f) σ H Q) :
    tCB (rIsiT K) (tCons (T K W f) (tCons (tTup (tCons (tC (.ty T1)) (tCons (tC (.ty T2)) tNil))) tNil)) σ H Q := by
  refine t_e1 (r := fun v H1 Q => tTup (tCons (tC (.ty T1)) (tCons (tC (.ty T2)) tNil)) σ H1 fun x H2 => rIsiT K [v, x] H2 Q) (fun S H v dx Q hs r p => ?_) h
  refine ⟨by show 2 ≤ sizeLine; decide, fun q hq => ?_⟩
  cases e : tyOf dx with
  | none => rw [e] at p; exact p.elim
  | some t =>
    rw [e] at p
    simp only [Option.bind_some] at p
    cases e2 : kitT2 T1 T2 t with
    | none => rw [e2] at p; exact p.elim
    | some b =>
      rw [e2] at p
      have ex := Ext.mk0 hs hq (.tup [.ty T1, .ty T2])
      refine ⟨v, q, _, t, [.type T1, .type T2], b, rfl, upd_same, .cons (.ty T1) (.cons (.ty T2) .nil), ty_ok ex.sh (r.mono ex.ss ex.hh) e, ?_, p _ S _ ex (.bl b)⟩
      unfold kitT2 at e2
      cases e3 : kitT T1 t with
      | none => rw [e3] at e2; cases e2
      | some k =>
        rw [e3] at e2
        refine kitAny_cons (kitT_ok t k e3) (fun z => ?_) (fun z => ?_)
        · subst z
          cases e4 : kitT T2 t with
          | none => rw [e4] at e2; cases e2
          | some k2 =>
            rw [e4] at e2
            cases e2
            exact kitAny_cons (kitT_ok t b e4) (fun z => by rw [z]; exact kitAny_nil) (fun z => z)
        · subst z
          cases e2
          rfl
theorem d_isi2 {kt : Nat} {q1 q2 qt : Pos} (hm : X.mg "isinstance" = none) (hT1 : X.mg (Str.ofString T1) = none) (hv1 : bootBuiltins (Str.ofString T1) = some (.type T1)) (hT2 : X.mg (Str.ofString T2) = none) (hv2 : bootBuiltins (Str.ofString T2) = some (.type T2))
    (ha : PE X a (T X.K W f)) (hg : Gl X "isinstance" := by rfl) (hgT1 : Gl X (Str.ofString T1) := by rfl) (hgT2 : Gl X (Str.ofString T2) := by rfl)
    (hn1 : (Str.ofString T1) ≠ "__name__" := by decide) (hd1 : ((Str.ofString T1) == ("__debug__" : Str)) = false := by decide) (hn2 : (Str.ofString T2) ≠ "__name__" := by decide) (hd2 : ((Str.ofString T2) == ("__debug__" : Str)) = false := by decide)
    (k1 : starEach [.Name (Str.ofString T1) q1, .Name (Str.ofString T2) q2] X.env = (false, eval (.Name (Str.ofString T1) q1) X.env) :: starEach [.Name (Str.ofString T2) q2] X.env := by rfl)
    (k2 : starEach [.Name (Str.ofString T2) q2] X.env = (false, eval (.Name (Str.ofString T2) q2) X.env) :: starEach [] X.env := by rfl)
    (h1 : starEach [a, .Tuple [.Name (Str.ofString T1) q1, .Name (Str.ofString T2) q2] kt qt] X.env = (false, eval a X.env) :: starEach [.Tuple [.Name (Str.ofString T1) q1, .Name (Str.ofString T2) q2] kt qt] X.env := by rfl)
    (h2 : starEach [.Tuple [.Name (Str.ofString T1) q1, .Name (Str.ofString T2) q2] kt qt] X.env = (false, eval (.Tuple [.Name (Str.ofString T1) q1, .Name (Str.ofString T2) q2] kt qt) X.env) :: starEach [] X.env := by rfl)
    (hpl : (backTo pos (starEach [.Tuple [.Name (Str.ofString T1) q1, .Name (Str.ofString T2) q2] kt qt] X.env)).any (·.1) = false := by rfl) :
    PE X (.Call (.Name "isinstance" p) [a, .Tuple [.Name (Str.ofString T1) q1, .Name (Str.ofString T2) q2] kt qt] [] pos) (T X.K W (isiE (kitT2 T1 T2) f)) :=
  PE.imp (pe_callB call_isiT hg hm (by decide +kernel) (pa_cons ha (pa_cons (pe_tup (pa_cons (pe_bltn (v := .ty T1) hgT1 hT1 hv1 rfl hn1 hd1) (pa_cons (pe_bltn (v := .ty T2) hgT2 hT2 hv2 rfl hn2 hd2) pa_nil k2) k1)) pa_nil h2) h1) (by decide) (by decide) h1 hpl) fun _ _ _ h => t_isi2 h
end

/-! ### repr -/
section
mutual
theorem py_noDict : ∀ d : D, d.py.hasDict = false
  | .non => by rw [D.py]; simp only [PyData.hasDict]
  | .bl _ => by rw [D.py]; simp only [PyData.hasDict]
  | .int _ => by rw [D.py]; simp only [PyData.hasDict]
  | .str _ => by rw [D.py]; simp only [PyData.hasDict]
  | .lst ds => by rw [D.py]; simp only [PyData.hasDict]; exact pyAll_noDict ds
  | .tup ds => by rw [D.py]; simp only [PyData.hasDict]; exact pyAll_noDict ds
  | .new ds => by rw [D.py]; simp only [PyData.hasDict]; exact pyAll_noDict ds
  | .bor ds => by rw [D.py]; simp only [PyData.hasDict]; exact pyAll_noDict ds
  | .frz ns => by
    rw [D.py]
    simp only [PyData.hasDict]
    induction ns with
    | nil => simp only [List.map_nil, PyData.hasDictAll]
    | cons n ns ih => simp only [List.map_cons, PyData.hasDictAll, PyData.hasDict, ih, Bool.or_false]
  | .obj _ _ => by rw [D.py]; simp only [PyData.hasDict]
theorem pyAll_noDict : ∀ ds : List D, PyData.hasDictAll (D.pyAll ds) = false
  | [] => by rw [D.pyAll]; simp only [PyData.hasDictAll]
  | d :: ds => by rw [D.pyAll]; simp only [PyData.hasDictAll, py_noDict d, pyAll_noDict ds, Bool.or_false]
end
def okRepr (d : D) : Bool := d.pure && (d.py.showable && (decide (d.py.depth ≤ 60) && decide (d.py.shown.length ≤ LINE)))
def reprD (d : D) : Option D := if okRepr d then some (.str d.py.shown) else none
def rRepr (K : PySem.W.Frag) : List V → Hp → VK → Prop := fun xs H Q => ∃ (v : V) (d : PyData), xs = [v] ∧ Dp K H v d ∧ d.hasDict = false ∧ d.showable = true ∧ d.depth ≤ 60 ∧ d.shown.length ≤ sizeLine ∧ Q (.str d.shown) H
variable {X : Cx} {W : WX} {a : Expr} {f : Ev} {p pos : Pos}
theorem call_repr (gd : X.A.guards = some []) (hu : X.A.units + 64 < cLine) : CallR X (.builtin "repr") (rRepr X.K) := by
  intro pins s σ H xs us Q I rv h
  obtain ⟨v, d, rfl, hd, nd, hs, hdep, hl, q⟩ := h
  obtain ⟨u, rfl, ru⟩ := vals1 rv
  obtain ⟨as, r⟩ := Dp.reads I d v u hd ru
  have fin : ∀ (h' : Heap) (t : Tok) (tk : Nat), (∀ b o, s.heap.get? b = some o → h'.get? b = some o) → EP X pins σ Q (.str d.shown t) { s with heap := h', toks := tk } :=
    fun h' t tk k => ⟨.str d.shown, H, I.kept k, ⟨t, rfl⟩, q⟩
  cases r with
  | none =>
    rw [PyData.shown_none] at fin
    exact PySem.P.repr_of_none (fin s.heap _ _ fun _ _ e => e)
  | bool b =>
    rw [PyData.shown_bool] at fin
    exact PySem.P.repr_of_bool (fin s.heap _ _ fun _ _ e => e)
  | int i t =>
    rw [PyData.shown_int] at fin
    exact PySem.P.repr_of_int (by simpa [PyData.showable] using hs) (fin s.heap _ _ fun _ _ e => e)
  | str x t =>
    rw [PyData.shown_str] at fin hl
    exact PySem.P.repr_of_str (fin s.heap _ _ fun _ _ e => e) hl
  | list h1 h2 h3 h4 => exact repr_of_reads' (.list h1 h2 h3 h4) hs (PyData.noDict_hsm nd) gd (by omega) (fun _ _ e => e) fin hl
  | tuple h1 h2 h3 h4 => exact repr_of_reads' (.tuple h1 h2 h3 h4) hs (PyData.noDict_hsm nd) gd (by omega) (fun _ _ e => e) fin hl
  | dict => cases hd
theorem reprD_ok {K : PySem.W.Frag} : ServesC1 K reprD (rRepr K) := by
  intro S H v dx Q hs r p
  unfold reprD at p
  split at p
  · rename_i h
    unfold okRepr at h
    simp only [Bool.and_eq_true, decide_eq_true_eq] at h
    obtain ⟨h1, h2, h3, h4⟩ := h
    exact ⟨v, dx.py, rfl, r.dp hs h1, py_noDict dx, h2, h3, by rw [line_eq]; exact h4, p.val hs (.str _)⟩
  · exact p.elim
theorem d_repr (gd : X.A.guards = some []) (hu : X.A.units + 64 < cLine) (hm : X.mg "repr" = none) (ha : PE X a (T X.K W f)) (hg : Gl X "repr" := by rfl)
    (h1 : starEach [a] X.env = (false, eval a X.env) :: starEach [] X.env := by rfl) (hpl : (backTo pos (starEach [] X.env)).any (·.1) = false := by rfl) : PE X (.Call (.Name "repr" p) [a] [] pos) (T X.K W (e1 reprD f)) :=
  d_callB1 (call_repr gd hu) reprD_ok hg hm (by decide +kernel) ha h1 (by decide) (by decide) hpl
end

/-! ### raise -/
def raiseS (x : Ex) : Es := fun ρ => .er x ρ
section
variable {X : Cx} {W : WX} {e : Expr} {pos : Pos} {C : Addr}
theorem s_raise (hc : X.calm = true) (tk : Takes X W) (he : PMk X e (fun _ H Q => Q (.ref C) none H)) : PS X (.Raise (some e) none pos) (TSt X.K W (raiseS ⟨.ref C, none⟩)) := PS.imp (ps_raise hc tk he) fun D σ H q => by
  obtain ⟨S0, H0, S, ρ, R, p⟩ := q
  exact p none σ S H R rfl
end
/-- an error class of the module without an __init__ -/
structure Err (K : PySem.W.Frag) (mg : Str → Option Value) (x : Str) (C : Addr) : Prop where
  xc : PySem.W.excIn K C [.type "ValueError", .type "Exception", .type "BaseException", .type "object"] "ValueError.__new__" = true
  gC : mg x = some (.ref C)
  kC : PySem.W.keepIn K (.ref C) = true
  sub : PySem.W.subIn K (.ref C) (.type "BaseException") = some true
  ty : PySem.W.typeIn K (.ref C) = some (.type "type")
theorem pmk_err {X : Cx} {x m : Str} {C : Addr} {j : Nat} {p p2 pos : Pos} (e : Err X.K X.mg x C) (hg : Gl X x := by rfl) (hdb : (x == ("__debug__" : Str)) = false := by decide) :
    PMk X (.Call (.Name x p) [.Constant (.str m) j p2] [] pos) (fun _ H Q => Q (.ref C) none H) := pmk_own PySem.F.excBase_ValueError e.xc e.gC e.kC (raises_own e.sub e.ty) hg hdb
end DL

namespace DL
open PySem L2
section
open PySem.Spec PyProof.Rows HT
variable {prog : Program} {w : World} {A : Around} {E : Value → Shared → Prop} {s : Shared}
theorem places_back (n : Nat) : Builtin.Slice.slicePlaces ((n : Int) - 1) (-1) (-1) = n := by
  unfold Builtin.Slice.slicePlaces
  have h1 : ¬ ((-1 : Int) > 0) := by decide
  simp only [h1, if_false]
  split
  · have e : ((n : Int) - 1 - -1 - 1) / (- -1) + 1 = (n : Int) := by
      rw [show (- -1 : Int) = 1 by decide, Int.ediv_one]; omega
    rw [e, Int.toNat_natCast]
  · omega
theorem fm_congr {α β : Type} {f g : α → Option β} : ∀ {l : List α}, (∀ a ∈ l, f a = g a) → l.filterMap f = l.filterMap g
  | [], _ => rfl
  | a :: l, h => by
    rw [List.filterMap_cons, List.filterMap_cons, h a List.mem_cons_self, fm_congr fun b hb => h b (List.mem_cons_of_mem _ hb)]
theorem pick_back (items : Array Value) : ((List.range items.size).filterMap fun (m : Nat) => items[((items.size : Int) - 1 + (m : Int) * -1).toNat]?) = items.toList.reverse := by
  have e : (List.range items.size).filterMap (fun (m : Nat) => items[((items.size : Int) - 1 + (m : Int) * -1).toNat]?) = ((List.range items.size).map fun k => items.size - 1 - k).filterMap (items[·]?) := by
    rw [List.filterMap_map]
    refine fm_congr fun k hk => ?_
    have := List.mem_range.mp hk
    show _ = items[items.size - 1 - k]?
    have q : ((items.size : Int) - 1 + (k : Int) * -1).toNat = items.size - 1 - k := by omega
    rw [q]
  rw [e, PySem.W.krv_range, List.filterMap_reverse, PySem.W.krv_all]
theorem applied_back {sl : Addr} {vl vu vs : Value} {n : Nat} {Q : Int × Int × Nat → Shared → Prop} (hs : s.heap.IsSliceOf sl vl vu vs) (pl : IsPart vl none) (pu : IsPart vu none) (ps : IsPart vs (some (-1)))
    (h : Q ((n : Int) - 1, -1, n) s) : wpAny (model prog w) A (Builtin.Slice.sliceApplied (.ref sl) (pure (n : Int))) Q E s := by
  obtain ⟨os, hos, _, hds⟩ := id hs
  unfold Builtin.Slice.sliceApplied Builtin.Slice.sliceFields
  refine wpAny_bind (wpAny_bind (wpAny_field hos hds (x := vl) rfl (wpAny_bind (wpAny_field hos hds (x := vu) rfl (wpAny_bind (wpAny_field hos hds (x := vs) rfl (wpAny_pure ?_)))))))
  refine wpAny_bind (slicePart_ ps ?_)
  show wpAny _ _ (if ((-1 : Int) == 0) = true then _ else _) _ _ s
  rw [if_neg (by decide)]
  refine wpAny_bind (slicePart_ pl (wpAny_bind (slicePart_ pu (wpAny_bind (wpAny_pure ?_)))))
  show wpAny _ _ (match Builtin.Slice.sliceAdjust none none (-1) (n : Int) with | (lo, hi) => pure (lo, (-1 : Int), Builtin.Slice.slicePlaces lo hi (-1))) _ _ s
  show wpAny _ _ (pure ((n : Int) - 1, (-1 : Int), Builtin.Slice.slicePlaces ((n : Int) - 1) (-1) (-1))) _ _ s
  rw [places_back]
  exact wpAny_pure h
theorem getItem_back {t sl : Addr} {items : Array Value} {vl vu vs : Value} {Q : Value → Shared → Prop} (ht : IsTup s.heap t items) (hs : s.heap.IsSliceOf sl vl vu vs) (pl : IsPart vl none) (pu : IsPart vu none) (ps : IsPart vs (some (-1)))
    (hsz : items.size ≤ sizeLine) (h : Q (.ref s.heap.objs.size) { s with heap := s.heap.push { cls := .type "tuple", data := .seq items.toList.reverse.toArray } }) : wpAny (model prog w) A (getItem (.ref t) (.ref sl)) Q E s := by
  have fits : sizeOk (.seq items.toList.reverse.toArray) := by
    show items.toList.reverse.toArray.size ≤ sizeLine
    rw [List.size_toArray, List.length_reverse, Array.length_toList]; exact hsz
  obtain ⟨os, hos, hcs, _⟩ := id hs
  have isSl : s.TypeIs (.ref sl) "slice" := ⟨os, hos, hcs⟩
  unfold getItem
  try with_reducible refine wpAny_holding ?_
  first | refine wpAny_bind (wpAny_pure ?_) | skip
  refine wpAny_bind (wpAny_sequenceKey ht.typeIs (by decide) (wpAny_bind (wpAny_callSpecial?_slot (name := Str.ofString "__getitem__") ht.typeIs slot_tuple_getitem
    (wpAny_call_entry slot_tuple_getitem ht.typeIs entry_tuple_getitem ?_ (args_tuple_getitem _ _)))))
  show wpAny _ _ (Builtin.Tuple.tupleItemsOf (.ref t) >>= _) _ _ s
  refine wpAny_bind (tupleItemsOf_ ht (wpAny_bind (wpAny_typeOf isSl ?_)))
  rw [if_pos (by decide)]
  refine wpAny_bind (applied_back hs pl pu ps ?_)
  have part : ¬ ((((items.size : Int) - 1) == 0 && (-1 : Int) == 1 && items.size == items.size) = true) := by
    rw [show ((-1 : Int) == 1) = false by decide, Bool.and_false, Bool.false_and]; exact Bool.false_ne_true
  show wpAny _ _ (if (((items.size : Int) - 1) == 0 && (-1 : Int) == 1 && items.size == items.size) = true then _ else _) _ _ s
  rw [if_neg part, pick_back]
  first
    | exact wpAny_bind (m := Builtin.Tuple.tupleExact _) (wpAny_newObj_type (wpAny_pure ⟨_, rfl, wpAny_pure h⟩) fits)
    | exact wpAny_bind (m := Builtin.Tuple.tupleExact _) (wpAny_newObj_type (wpAny_bind (wpAny_pure (wpAny_pure ⟨_, rfl, wpAny_pure h⟩))) fits)
    | exact wpAny_bind (wpAny_bind (m := Builtin.Tuple.tupleExact _) (wpAny_newObj_type (wpAny_pure (wpAny_pure ⟨_, rfl, wpAny_pure h⟩)) fits))
    | exact wpAny_bind (wpAny_bind (m := Builtin.Tuple.tupleExact _) (wpAny_newObj_type (wpAny_pure ⟨_, rfl, wpAny_pure h⟩) fits))
end
/-- t[::-1] of a tuple -/
def tRevT (K : PySem.W.Frag) (te : TE) : TE := fun σ H Q => te σ H fun x H1 => ∃ a xs, x = .ref a ∧ SqT K H1 a xs ∧ ∀ p, H1 p = none → Q (.ref p) (upd H1 p (.tup xs.reverse))
section
open PySem.Spec PyProof.Rows
variable {X : Cx} {W : WX} {e : Expr} {te : TE} {f : Ev} {k : Nat} {p1 p2 p3 pos : Pos}
theorem pe_revT (he : PE X e te) : PE X (.Subscript e (.Slice none none (some (.UnaryOp .USub (.Constant (.int 1) k p1) p2)) p3) pos) (tRevT X.K te) := by
  refine ⟨fun pins s σ H Q I h => ?_⟩
  refine Subscript_ (thn (he.run pins s σ H _ I h) fun v s1 ⟨x, H1, I1, r1, a, xs, ex, hx, q⟩ => ?_)
  subst ex
  cases r1
  have step : PO X (some (.UnaryOp .USub (.Constant (.int 1) k p1) p2)) (tPart (tUn (rU fun i => .int (-i)) (tC (.int 1)))) := po_some (pe_un un_neg pe_int)
  refine wpAny_Slice (thn (po_none.run pins s1 σ H1 (fun o G => o = none ∧ G = H1) I1 ⟨rfl, rfl⟩) fun vl s2 ⟨_, G2, I2, pl, e1, e2⟩ => ?_)
  subst e1; subst e2
  refine thn (po_none.run pins s2 σ G2 (fun o G => o = none ∧ G = G2) I2 ⟨rfl, rfl⟩) fun vu s3 ⟨_, G3, I3, pu, e1, e2⟩ => ?_
  subst e1; subst e2
  refine thn (step.run pins s3 σ G3 (fun o G => o = some (-1) ∧ G = G3) I3 ⟨1, rfl, -1, rfl, rfl, rfl⟩) fun vs s4 ⟨_, G4, I4, ps, e1, e2⟩ => ?_
  subst e1; subst e2
  have I5 : Inv X pins σ G4 { s4 with heap := s4.heap.push { cls := .type "slice", data := .fields #[vl, vu, vs] } } := I4.kept (t' := s4.toks) fun b ob z => Heap.get?_push_of_some _ z
  obtain ⟨its, r, tt, hz⟩ := I5.tuple hx
  have count := r.length
  show wpAny _ _ (subscriptTail e (.Slice none none (some (.UnaryOp .USub (.Constant (.int 1) k p1) p2)) p3) (.ref a) (.ref s4.heap.objs.size)) _ _ _
  refine tail_any (ops := [.ref a, .ref s4.heap.objs.size]) tt.typeIs slot_tuple_getitem.lookup ?_ (by with_unfolding_all rfl)
  refine getItem_back tt (Heap.IsSliceOf.new _ vl vu vs) pl pu ps (by rw [List.size_toArray, ← count]; exact hz) ?_
  refine ⟨.ref _, _, I5.laid (t' := s4.toks) (o := .tup xs.reverse) (fun b ob z => Heap.get?_push_of_some _ z) (Nat.le_refl _) ?_, rfl, q _ (I5.hok.fresh (Nat.le_refl _))⟩
  exact ⟨by rw [List.length_reverse]; exact hz, its.reverse, r.reverse, _, Heap.get?_push_size _ rfl, rfl, _, by simp; rfl⟩
def revT : D → Option D
  | .tup ds => some (.tup ds.reverse)
  | _ => none
theorem d_revT (he : PE X e (T X.K W f)) : PE X (.Subscript e (.Slice none none (some (.UnaryOp .USub (.Constant (.int 1) k p1) p2)) p3) pos) (T X.K W (e1 revT f)) :=
  PE.imp (pe_revT he) fun σ H Q h => t_e1 (r := fun x H1 Q => ∃ a xs, x = .ref a ∧ SqT X.K H1 a xs ∧ ∀ p, H1 p = none → Q (.ref p) (upd H1 p (.tup xs.reverse))) (fun S H v dx Q hs r p => by
    cases dx with
    | tup ds =>
      cases r with
      | tup h q => exact ⟨_, _, rfl, Same.seqT hs h, p.tup hs q.reverse⟩
    | _ => exact p.elim) h
end
end DL

namespace DL
open PySem L2
/-! ### a list of the def's own is handed to an expression that makes no list -/
mutual
def D.flat : D → Bool
  | .lst _ | .new _ | .bor _ | .frz _ => false
  | .tup ds => D.flatAll ds
  | .obj _ fs => D.flatF fs
  | _ => true
def D.flatAll : List D → Bool
  | [] => true
  | d :: ds => D.flat d && D.flatAll ds
def D.flatF : List (Str × D) → Bool
  | [] => true
  | (_, d) :: ds => D.flat d && D.flatF ds
end
def without (S : Hp) (l : Addr) : Hp := fun b => if b = l then none else S b
theorem without_ne {S : Hp} {l b : Addr} (h : b ≠ l) : without S l b = S b := if_neg h
theorem without_same {S : Hp} {l : Addr} : without S l l = none := if_pos rfl
section
variable {K : PySem.W.Frag} {S : Hp} {l : Addr} {zs : List V} (hl : S l = some (.lst zs))
include hl
mutual
theorem Rp.less : ∀ {v : V} {d : D}, Rp K S v d → d.flat = true → Rp K (without S l) v d
  | _, _, .non, _ => .non
  | _, _, .bl b, _ => .bl b
  | _, _, .int i, _ => .int i
  | _, _, .str s, _ => .str s
  | _, _, .lst _ _, e => by rw [D.flat] at e; cases e
  | _, _, .frz _, e => by rw [D.flat] at e; cases e
  | _, _, .tup (a := a) h r, e => by
    rw [D.flat] at e
    refine .tup ?_ (RpAll.less r e)
    rcases h with h | h
    · rcases h with h | ⟨o, h⟩
      · exact .inl (.inl (by rw [without_ne fun z => by rw [z, hl] at h; cases h]; exact h))
      · exact .inl (.inr ⟨o, by rw [without_ne fun z => by rw [z, hl] at h; cases h]; exact h⟩)
    · exact .inr h
  | _, _, .obj h r, e => by
    rw [D.flat] at e
    exact .obj (by rw [without_ne fun z => by rw [z, hl] at h; cases h]; exact h) (RpF.less r e)
theorem RpAll.less : ∀ {vs : List V} {ds : List D}, RpAll K S vs ds → D.flatAll ds = true → RpAll K (without S l) vs ds
  | _, _, .nil, _ => .nil
  | _, _, .cons h r, e => by
    rw [D.flatAll, Bool.and_eq_true] at e
    exact .cons (Rp.less h e.1) (RpAll.less r e.2)
theorem RpF.less : ∀ {vs : List (Str × V)} {ds : List (Str × D)}, RpF K S vs ds → D.flatF ds = true → RpF K (without S l) vs ds
  | _, _, .nil, _ => .nil
  | _, _, .cons h r, e => by
    rw [D.flatF, Bool.and_eq_true] at e
    exact .cons (Rp.less h e.1) (RpF.less r e.2)
end
end
def borE (i : Nat) (f : Ev) : Ev := fun ρ => match ρ[i]? with
  | some (.own ds) => (f (ρ.set i (.v (.lst ds)))).bind fun d => if d.flat then .ok d else .st
  | _ => f ρ
theorem t_bor {K : PySem.W.Frag} {W : WX} {i : Nat} {f : Ev} {σ : St} {H : Hp} {Q : VK} (h : T K W (borE i f) σ H Q) : T K W f σ H Q := by
  obtain ⟨S0, H0, S, ρ, R, p⟩ := h
  unfold borE at p
  cases e : ρ[i]? with
  | none => rw [e] at p; exact ⟨S0, H0, S, ρ, R, p⟩
  | some s =>
    rw [e] at p
    cases s with
    | un => exact ⟨S0, H0, S, ρ, R, p⟩
    | exc a => exact ⟨S0, H0, S, ρ, R, p⟩
    | ob l C fs => exact ⟨S0, H0, S, ρ, R, p⟩
    | v d => exact ⟨S0, H0, S, ρ, R, p⟩
    | own ds =>
      obtain ⟨x, h1, l, xs, rfl, h2, h3, h4, h5⟩ := R.at_ i _ e
      have il : i < ρ.length := (List.getElem?_eq_some_iff.mp e).1
      have ss : Same S (upd S l (.lst xs)) := fun b u q => by rw [upd_ne (ne_of_none q h3)]; exact q
      -- the frozen state
      have RF : ∃ S', S' = upd S l (.lst xs) ∧ Rel K S0 H0 S' H σ (ρ.set i (.v (.lst ds))) := by
        refine ⟨_, rfl, ⟨R.ex.ss.trans ss, R.ex.hh, fun b u q => ?_, fun m q n => ?_⟩, by rw [List.length_set]; exact R.len, fun j s' q => ?_, fun j k m fs es n e1 e2 e3 e4 => ?_⟩
        · by_cases hb : b = l
          · subst hb; rw [upd_same] at q; rw [← q]; exact h4
          · rw [upd_ne hb] at q; exact R.ex.sh _ _ q
        · have : m ≠ l := fun z => n (by rw [z]; exact h2)
          rw [upd_ne this]; exact R.ex.fr m q n
        · by_cases hj : i = j
          · subst hj
            rw [List.getElem?_set_self il] at q
            cases q
            exact ⟨_, h1, _, rfl, .lst upd_same (h5.mono ss)⟩
          · rw [List.getElem?_set_ne hj] at q
            obtain ⟨x, g1, g2⟩ := R.at_ j s' q
            refine ⟨x, g1, ?_⟩
            cases s' with
            | un => trivial
            | exc a => exact g2
            | ob m C fs =>
              obtain ⟨dx, zs, k1, k2, k3, k4, k5⟩ := g2
              have : m ≠ l := fun z => by rw [z, h4] at k4; cases k4
              exact ⟨dx, zs, k1, k2, by rw [upd_ne this]; exact k3, k4, k5.mono ss⟩
            | v d => obtain ⟨v, k1, k2⟩ := g2; exact ⟨v, k1, k2.mono ss⟩
            | own es =>
              obtain ⟨m, zs, k1, k2, k3, k4, k5⟩ := g2
              have : m ≠ l := fun z => R.dis i j l ds es hj e q h1 (by rw [g1, k1, z])
              exact ⟨m, zs, k1, k2, by rw [upd_ne this]; exact k3, k4, k5.mono ss⟩
        · have f : ∀ {m : Nat} {fs : List D}, (ρ.set i (.v (.lst ds)))[m]? = some (.own fs) → ρ[m]? = some (.own fs) := fun {m fs} q => by
            by_cases hm : i = m
            · subst hm; rw [List.getElem?_set_self il] at q; cases q
            · rw [List.getElem?_set_ne hm] at q; exact q
          exact R.dis j k m fs es n (f e1) (f e2) e3 e4
      obtain ⟨S', eS, RF⟩ := RF
      have back : ∀ {S2 H2 : Hp}, Ext S' H S2 H2 → S2 l = some (.lst xs) ∧ Ext S H (without S2 l) H2 := fun {S2 H2} ex => by
        have at2 : S2 l = some (.lst xs) := ex.ss _ _ (by rw [eS]; exact upd_same)
        refine ⟨at2, fun b u q => ?_, ex.hh, fun b u q => ?_, fun m q n => ?_⟩
        · have : b ≠ l := ne_of_none q h3
          rw [without_ne this]
          exact ex.ss _ _ (by rw [eS, upd_ne this]; exact q)
        · by_cases hb : b = l
          · subst hb; rw [without_same] at q; cases q
          · rw [without_ne hb] at q; exact ex.sh _ _ q
        · by_cases hm : m = l
          · rw [hm]; exact without_same
          · rw [without_ne hm]; exact ex.fr m (by rw [eS, upd_ne hm]; exact q) n
      refine ⟨S0, H0, S', _, RF, ?_⟩
      cases ef : f (ρ.set i (.v (.lst ds))) with
      | err x =>
        simp only [ef] at p
        exact fun dd S2 H2 ex hx => p dd _ H2 (back ex).2 hx
      | st => simp only [ef] at p; exact p
      | ok d =>
        simp only [ef, bind_ok] at p
        by_cases hf : d.flat = true
        · rw [if_pos hf] at p
          intro v S2 H2 ex r
          obtain ⟨a2, ex2⟩ := back ex
          refine p v _ H2 ex2 ?_
          cases d with
          | new es => rw [D.flat] at hf; cases hf
          | bor es => rw [D.flat] at hf; cases hf
          | lst es => rw [D.flat] at hf; cases hf
          | frz es => rw [D.flat] at hf; cases hf
          | _ => exact Rp.less a2 r hf
        · rw [if_neg hf] at p; exact p.elim
section
variable {X : Cx} {W : WX} {e : Expr} {f : Ev}
theorem d_bor {i : Nat} (h : PE X e (T X.K W f)) : PE X e (T X.K W (borE i f)) := PE.imp h fun _ _ _ q => t_bor q
end
/-! ### names in short -/
section
variable {X : Cx} {W : WX}
theorem dv (i : Nat) {x : Str} {pos : Pos} (hN : X.N[i]? = some x := by rfl) (hv : Vis X.env.scope x := by first | exact Or.inl rfl | exact Or.inr (Or.inl rfl) | exact Or.inr (Or.inr rfl)) (hd : (x == ("__debug__" : Str)) = false := by decide)
    (hcd : (x == ("__classdict__" : Str)) = false := by decide) : PE X (.Name x pos) (T X.K W (varE i)) := d_var hN hv hd hcd
end
end DL

namespace DL
open PySem L2

/-! ### what is shown of data without strings -/
def okS (s : Str) : Prop := ∀ c ∈ s.cps.toList, c < 0x110000
theorem okS_app {a b : Str} (ha : okS a) (hb : okS b) : okS (a ++ b) := fun c h => by
  rw [PyProof.Rows.cps_toList_append, List.mem_append] at h
  exact h.elim (ha c) (hb c)
theorem okS_int (i : Int) : okS (PyData.int i).shown := fun c h => by
  by_cases hc : c < 0x110000
  · exact hc
  · exact (PyProof.Rows.shown_int_free' (k := c) ⟨by omega, by omega⟩ i h).elim
theorem okS_textFrom : ∀ (ts : List Str) (k : Nat) (acc : Str), okS acc → (∀ t ∈ ts, okS t) → okS (textFrom k acc ts)
  | [], _, _, h, _ => h
  | t :: r, k, acc, h, ht => by
    show okS (textFrom (k + 1) (acc ++ (if k > 0 then ", " else "" : String) ++ t) r)
    refine okS_textFrom r _ _ (okS_app (okS_app h ?_) (ht t (List.mem_cons_self ..))) fun t' m => ht t' (List.mem_cons_of_mem _ m)
    split
    · show ∀ c ∈ (Str.ofString ", ").cps.toList, c < 0x110000
      decide
    · show ∀ c ∈ (Str.ofString "").cps.toList, c < 0x110000
      decide
theorem okS_join : ∀ (ts : List Str), (∀ t ∈ ts, okS t) → okS (Str.join ", " ts) := fun ts h c m => by
  rw [PyProof.Rows.mem_join] at m
  rcases m with ⟨t, ht, hc⟩ | ⟨_, m⟩
  · exact h t ht c hc
  · rw [PyProof.Rows.signs_sep] at m
    simp only [List.mem_cons, List.not_mem_nil, or_false] at m
    omega
theorem okS_list {ts : List Str} (h : ∀ t ∈ ts, okS t) : okS (listText ts) := by
  unfold listText
  refine okS_app (okS_textFrom ts _ _ ?_ h) ?_
  · show ∀ c ∈ (Str.ofString "[").cps.toList, c < 0x110000
    decide
  · show ∀ c ∈ (Str.ofString "]").cps.toList, c < 0x110000
    decide
theorem okS_tuple {ts : List Str} (h : ∀ t ∈ ts, okS t) : okS (tupleText ts) := by
  unfold tupleText
  refine okS_app (okS_app ?_ (okS_join ts h)) ?_
  · show ∀ c ∈ (Str.ofString "(").cps.toList, c < 0x110000
    decide
  · split
    · show ∀ c ∈ (Str.ofString ",)").cps.toList, c < 0x110000
      decide
    · show ∀ c ∈ (Str.ofString ")").cps.toList, c < 0x110000
      decide
mutual
/-- data without strings, its ints below 2 to 1920 -/
def D.num : D → Bool
  | .non => true
  | .bl _ => true
  | .int i => decide (i.natAbs.log2 < 1920)
  | .lst ds => D.numAll ds
  | .tup ds => D.numAll ds
  | .new ds => D.numAll ds
  | .bor ds => D.numAll ds
  | _ => false
def D.numAll : List D → Bool
  | [] => true
  | d :: ds => D.num d && D.numAll ds
end
mutual
/-- how long it is at most when shown -/
def D.shl : D → Nat
  | .int i => i.natAbs.log2 + 2
  | .lst ds => D.shlAll ds + 3
  | .tup ds => D.shlAll ds + 3
  | .new ds => D.shlAll ds + 3
  | .bor ds => D.shlAll ds + 3
  | _ => 5
def D.shlAll : List D → Nat
  | [] => 0
  | d :: ds => D.shl d + 2 + D.shlAll ds
end
theorem shown_lst (xs : List PyData) : (PyData.list xs).shown = listText (PyData.shownAll xs) := by rw [PyData.shown]
theorem shown_tup (xs : List PyData) : (PyData.tuple xs).shown = tupleText (PyData.shownAll xs) := by rw [PyData.shown]
structure Sh (d : D) : Prop where
  pure : d.pure = true
  show_ : d.py.showable = true
  ok : okS d.py.shown
  len : d.py.shown.length ≤ d.shl
structure ShAll (ds : List D) : Prop where
  pure : D.pureAll ds = true
  show_ : PyData.showableAll (D.pyAll ds) = true
  ok : ∀ t ∈ PyData.shownAll (D.pyAll ds), okS t
  len : ((PyData.shownAll (D.pyAll ds)).map (·.length)).sum + 2 * (PyData.shownAll (D.pyAll ds)).length ≤ D.shlAll ds
theorem sh_l {ds : List D} (h : ShAll ds) : (PyData.list (D.pyAll ds)).showable = true ∧ okS (PyData.list (D.pyAll ds)).shown ∧ (PyData.list (D.pyAll ds)).shown.length ≤ D.shlAll ds + 3 := by
  refine ⟨by rw [PyData.showable]; exact h.show_, by rw [shown_lst]; exact okS_list h.ok, ?_⟩
  rw [shown_lst]
  have := listText_len_le (PyData.shownAll (D.pyAll ds))
  have := h.len
  omega
theorem sh_t {ds : List D} (h : ShAll ds) : (PyData.tuple (D.pyAll ds)).showable = true ∧ okS (PyData.tuple (D.pyAll ds)).shown ∧ (PyData.tuple (D.pyAll ds)).shown.length ≤ D.shlAll ds + 3 := by
  refine ⟨by rw [PyData.showable]; exact h.show_, by rw [shown_tup]; exact okS_tuple h.ok, ?_⟩
  rw [shown_tup]
  have := tupleText_len_le (PyData.shownAll (D.pyAll ds))
  have := h.len
  omega
mutual
theorem num_sh : ∀ d : D, d.num = true → Sh d
  | .non, _ => ⟨by rw [D.pure] <;> (intros; simp_all), by rw [D.py]; rfl, by rw [D.py, PyData.shown_none]; (show ∀ c ∈ (Str.ofString "None").cps.toList, c < 0x110000); decide, by rw [D.py, PyData.shown_none]; exact (by decide : (Str.ofString "None").length ≤ 5)⟩
  | .bl b, _ => ⟨by rw [D.pure] <;> (intros; simp_all), by rw [D.py]; rfl, by
      rw [D.py, PyData.shown_bool]
      cases b
      · show ∀ c ∈ (Str.ofString "False").cps.toList, c < 0x110000
        decide
      · show ∀ c ∈ (Str.ofString "True").cps.toList, c < 0x110000
        decide, by
      rw [D.py, PyData.shown_bool]
      cases b
      · exact (by decide : (Str.ofString "False").length ≤ 5)
      · exact (by decide : (Str.ofString "True").length ≤ 5)⟩
  | .int i, h => ⟨by rw [D.pure] <;> (intros; simp_all), by rw [D.py, PyData.showable]; rw [D.num] at h; exact h, by rw [D.py]; exact okS_int i, by
      rw [D.py, PyData.shown_int, D.shl]
      have := int_text_length_le (a := i) (k := i.natAbs.log2 + 1) (by omega) (by omega)
      show (Str.ofString (toString i)).length ≤ _
      rw [ofString_length]
      exact this⟩
  | .lst ds, h => by
    have a := numAll_sh ds (by rw [D.num] at h; exact h)
    obtain ⟨b, c, d⟩ := sh_l a
    exact ⟨by rw [D.pure]; exact a.pure, by rw [D.py]; exact b, by rw [D.py]; exact c, by rw [D.py, D.shl]; exact d⟩
  | .new ds, h => by
    have a := numAll_sh ds (by rw [D.num] at h; exact h)
    obtain ⟨b, c, d⟩ := sh_l a
    exact ⟨by rw [D.pure]; exact a.pure, by rw [D.py]; exact b, by rw [D.py]; exact c, by rw [D.py, D.shl]; exact d⟩
  | .bor ds, h => by
    have a := numAll_sh ds (by rw [D.num] at h; exact h)
    obtain ⟨b, c, d⟩ := sh_l a
    exact ⟨by rw [D.pure]; exact a.pure, by rw [D.py]; exact b, by rw [D.py]; exact c, by rw [D.py, D.shl]; exact d⟩
  | .tup ds, h => by
    have a := numAll_sh ds (by rw [D.num] at h; exact h)
    obtain ⟨b, c, d⟩ := sh_t a
    exact ⟨by rw [D.pure]; exact a.pure, by rw [D.py]; exact b, by rw [D.py]; exact c, by rw [D.py, D.shl]; exact d⟩
  | .str _, h => by rw [D.num] at h; cases h; all_goals (intros; simp_all)
  | .frz _, h => by rw [D.num] at h; cases h; all_goals (intros; simp_all)
  | .obj _ _, h => by rw [D.num] at h; cases h; all_goals (intros; simp_all)
theorem numAll_sh : ∀ ds : List D, D.numAll ds = true → ShAll ds
  | [], _ => ⟨by rw [D.pureAll], by rw [D.pyAll]; rfl, (by intro t h; rw [D.pyAll, PyData.shownAll_nil] at h; cases h), by rw [D.pyAll, PyData.shownAll_nil]; exact Nat.zero_le _⟩
  | d :: ds, h => by
    rw [D.numAll, Bool.and_eq_true] at h
    have a := num_sh d h.1
    have b := numAll_sh ds h.2
    refine ⟨by rw [D.pureAll, a.pure, b.pure]; rfl, by rw [D.pyAll, PyData.showableAll, a.show_, b.show_]; rfl, ?_, ?_⟩
    · rw [D.pyAll]
      intro t m
      rw [PyData.shownAll_cons, List.mem_cons] at m
      rcases m with rfl | m
      · exact a.ok
      · exact b.ok t m
    · rw [D.pyAll, PyData.shownAll_cons, D.shlAll]
      have h1 := a.len
      have h2 := b.len
      simp only [List.map_cons, List.sum_cons, List.length_cons]
      omega
end
/-- what can be shown -/
def D.okR (d : D) : Bool := d.num && (decide (d.py.depth ≤ 60) && decide (d.shl ≤ LINE))
theorem okR_repr {d : D} (h : d.okR = true) : reprD d = some (.str d.py.shown) := by
  unfold D.okR at h
  simp only [Bool.and_eq_true, decide_eq_true_eq] at h
  obtain ⟨h1, h2, h3⟩ := h
  have s := num_sh d h1
  unfold reprD okRepr
  rw [if_pos]
  simp only [Bool.and_eq_true, decide_eq_true_eq]
  exact ⟨s.pure, s.show_, h2, Nat.le_trans s.len h3⟩
theorem okEq_str {s : Str} (h : okS s) : okEq (.str s) = true := by
  unfold okEq SeqAt.shaped
  have e : D.pure (.str s) = true := by rw [D.pure] <;> (intros; simp_all)
  rw [e, D.py]
  have e2 : PyData.canLay0 (.str s) = true := by
    rw [PyData.canLay0]
    unfold PyData.strOk
    rw [← Array.all_toList, List.all_eq_true]
    intro c m
    exact decide_eq_true (h c m)
  rw [e2]
  rfl
theorem ne_shown {d : D} (h : d.okR = true) : neD (.str d.py.shown) (.str d.py.shown) = some (.bl false) := by
  unfold D.okR at h
  simp only [Bool.and_eq_true, decide_eq_true_eq] at h
  have s := num_sh d h.1
  unfold neD
  rw [okEq_str s.ok]
  have e : PyData.eqv (D.str d.py.shown).py (D.str d.py.shown).py = true := by
    rw [D.py, PyData.eqv]
    exact beq_self_eq_true _
  rw [e]
  rfl
/-- repr(a) != repr(b) of equal data -/
theorem ne_repr {d : D} (h : d.okR = true) : (ofO (reprD d)).bind (fun x => (ofO (reprD d)).bind fun y => ofO (neD x y)) = .ok (.bl false) := by
  rw [okR_repr h]
  simp only [ofO_some, bind_ok]
  rw [ne_shown h]
  rfl
end DL

section
set_option autoImplicit true
namespace DL
open PySem L2

/-! ### how a text is reckoned -/
abbrev il (l : List Int) : List D := l.map D.int
theorem kB (a b : String) (x : Option Bool) (h : kitB a b = x := by decide +kernel) : kitB a b = x := h
theorem kitT_int_int : kitT "int" (.type "int") = some true := by unfold kitT; decide +kernel
theorem kitT_int_bool : kitT "int" (.type "bool") = some true := by unfold kitT; decide +kernel
theorem kitT_int_str : kitT "int" (.type "str") = some false := by unfold kitT; decide +kernel
theorem kitT_int_list : kitT "int" (.type "list") = some false := by unfold kitT; decide +kernel
theorem kitT_int_tuple : kitT "int" (.type "tuple") = some false := by unfold kitT; decide +kernel
theorem kitT_int_none : kitT "int" (.type "NoneType") = some false := by unfold kitT; decide +kernel
theorem kitT_bool_int : kitT "bool" (.type "int") = some false := by unfold kitT; decide +kernel
theorem kitT_bool_bool : kitT "bool" (.type "bool") = some true := by unfold kitT; decide +kernel
theorem kitT_bool_str : kitT "bool" (.type "str") = some false := by unfold kitT; decide +kernel
theorem kitT_bool_list : kitT "bool" (.type "list") = some false := by unfold kitT; decide +kernel
theorem kitT_bool_tuple : kitT "bool" (.type "tuple") = some false := by unfold kitT; decide +kernel
theorem kitT_bool_none : kitT "bool" (.type "NoneType") = some false := by unfold kitT; decide +kernel
theorem kitT_tuple_int : kitT "tuple" (.type "int") = some false := by unfold kitT; decide +kernel
theorem kitT_tuple_bool : kitT "tuple" (.type "bool") = some false := by unfold kitT; decide +kernel
theorem kitT_tuple_str : kitT "tuple" (.type "str") = some false := by unfold kitT; decide +kernel
theorem kitT_tuple_list : kitT "tuple" (.type "list") = some false := by unfold kitT; decide +kernel
theorem kitT_tuple_tuple : kitT "tuple" (.type "tuple") = some true := by unfold kitT; decide +kernel
theorem kitT_tuple_none : kitT "tuple" (.type "NoneType") = some false := by unfold kitT; decide +kernel
theorem kitT_list_int : kitT "list" (.type "int") = some false := by unfold kitT; decide +kernel
theorem kitT_list_bool : kitT "list" (.type "bool") = some false := by unfold kitT; decide +kernel
theorem kitT_list_str : kitT "list" (.type "str") = some false := by unfold kitT; decide +kernel
theorem kitT_list_list : kitT "list" (.type "list") = some true := by unfold kitT; decide +kernel
theorem kitT_list_tuple : kitT "list" (.type "tuple") = some false := by unfold kitT; decide +kernel
theorem kitT_list_none : kitT "list" (.type "NoneType") = some false := by unfold kitT; decide +kernel
theorem kitT_str_int : kitT "str" (.type "int") = some false := by unfold kitT; decide +kernel
theorem kitT_str_bool : kitT "str" (.type "bool") = some false := by unfold kitT; decide +kernel
theorem kitT_str_str : kitT "str" (.type "str") = some true := by unfold kitT; decide +kernel
theorem kitT_str_list : kitT "str" (.type "list") = some false := by unfold kitT; decide +kernel
theorem kitT_str_tuple : kitT "str" (.type "tuple") = some false := by unfold kitT; decide +kernel
theorem kitT_str_none : kitT "str" (.type "NoneType") = some false := by unfold kitT; decide +kernel
theorem eqD_int (i j : Int) : eqD (.int i) (.int j) = some (.bl (i == j)) := by
  unfold eqD okEq SeqAt.shaped
  rw [D.py, D.py]
  simp [D.pure, PyData.canLay0, PyData.depth, PyData.eqv]
theorem neD_int (i j : Int) : neD (.int i) (.int j) = some (.bl (i != j)) := by
  unfold neD okEq SeqAt.shaped
  rw [D.py, D.py]
  simp [D.pure, PyData.canLay0, PyData.depth, PyData.eqv, bne]
theorem eqD_bl (i j : Bool) : eqD (.bl i) (.bl j) = some (.bl (i == j)) := by
  unfold eqD okEq SeqAt.shaped
  rw [D.py, D.py]
  simp [D.pure, PyData.canLay0, PyData.depth, PyData.eqv]
theorem neD_bl (i j : Bool) : neD (.bl i) (.bl j) = some (.bl (i != j)) := by
  unfold neD okEq SeqAt.shaped
  rw [D.py, D.py]
  simp [D.pure, PyData.canLay0, PyData.depth, PyData.eqv, bne]
theorem pureAll_ints : ∀ l : List Int, D.pureAll (il l) = true
  | [] => by simp [D.pureAll]
  | i :: l => by simp only [il, List.map_cons, D.pureAll, D.pure, Bool.true_and]; exact pureAll_ints l
theorem canLay_ints : ∀ l : List Int, PyData.canLayAll0 (D.pyAll (il l)) = true
  | [] => by simp [D.pyAll, PyData.canLayAll0]
  | i :: l => by simp only [il, List.map_cons, D.pyAll, D.py, PyData.canLayAll0, PyData.canLay0, Bool.true_and]; exact canLay_ints l
theorem depth_ints : ∀ l : List Int, PyData.depthAll (D.pyAll (il l)) = 0
  | [] => by simp [D.pyAll, PyData.depthAll]
  | i :: l => by simp only [il, List.map_cons, D.pyAll, D.py, PyData.depthAll, PyData.depth]; rw [depth_ints l]; rfl
theorem eqv_ints : ∀ l m : List Int, PyData.eqvAll (D.pyAll (il l)) (D.pyAll (il m)) = (l == m)
  | [], [] => by simp [D.pyAll, PyData.eqvAll]
  | i :: l, [] => by simp [D.pyAll, PyData.eqvAll]
  | [], i :: l => by simp [D.pyAll, PyData.eqvAll]
  | i :: l, j :: m => by
    simp only [il, List.map_cons, D.pyAll, D.py, PyData.eqvAll, PyData.eqv]
    have := eqv_ints l m
    simp only [il] at this
    rw [this]
    rfl
theorem okEq_ints_t (l : List Int) : okEq (.tup (il l)) = true := by
  unfold okEq SeqAt.shaped
  rw [D.py, D.pure, pureAll_ints, PyData.canLay0, canLay_ints, PyData.depth, depth_ints]
  rfl
theorem okEq_ints_l (l : List Int) : okEq (.lst (il l)) = true := by
  unfold okEq SeqAt.shaped
  rw [D.py, D.pure, pureAll_ints, PyData.canLay0, canLay_ints, PyData.depth, depth_ints]
  rfl
theorem okEq_ints_n (l : List Int) : okEq (.new (il l)) = true := by
  unfold okEq SeqAt.shaped
  rw [D.py, D.pure, pureAll_ints, PyData.canLay0, canLay_ints, PyData.depth, depth_ints]
  rfl
theorem eqD_new_ints (l m : List Int) : eqD (.new (il l)) (.new (il m)) = some (.bl (l == m)) := by
  unfold eqD
  rw [okEq_ints_n, okEq_ints_n, D.py, D.py, PyData.eqv, eqv_ints]
  rfl
theorem numAll_ints : ∀ l : List Int, (∀ x ∈ l, x.natAbs.log2 < 1920) → D.numAll (il l) = true
  | [], _ => by simp [D.numAll]
  | i :: l, h => by
    simp only [il, List.map_cons, D.numAll, D.num]
    rw [decide_eq_true (h i (List.mem_cons_self ..))]
    exact numAll_ints l fun x m => h x (List.mem_cons_of_mem _ m)
theorem shl_ints (B : Nat) : ∀ l : List Int, (∀ x ∈ l, x.natAbs.log2 ≤ B) → D.shlAll (il l) ≤ (B + 4) * l.length
  | [], _ => by simp [D.shlAll]
  | i :: l, h => by
    simp only [il, List.map_cons, D.shlAll, D.shl, List.length_cons]
    have h1 := h i (List.mem_cons_self ..)
    have h2 := shl_ints B l fun x m => h x (List.mem_cons_of_mem _ m)
    simp only [il] at h2
    rw [Nat.mul_succ]
    omega
theorem okR_ints {l : List Int} (h : ∀ x ∈ l, x.natAbs.log2 ≤ 1900) (hl : l.length ≤ 8000) : (D.tup (il l)).okR = true := by
  unfold D.okR
  rw [D.num, numAll_ints l (fun x m => by have := h x m; omega), D.py, PyData.depth, depth_ints, D.shl]
  have := shl_ints 1900 l h
  simp only [Bool.true_and, Bool.and_eq_true, decide_eq_true_eq]
  refine ⟨by decide, ?_⟩
  have h2 : (1900 + 4) * l.length ≤ 1904 * 8000 := Nat.mul_le_mul_left _ hl
  show D.shlAll (il l) + 3 ≤ 16777216
  omega
theorem atI_ints {l : List Int} {i : Int} (h0 : 0 ≤ i) (h1 : i < l.length) : L2.atI (il l) i = some (.int (l.getD i.toNat 0)) := by
  unfold L2.atI L2.ixN
  rw [if_pos h0, if_pos (by simpa [il] using h1)]
  show (il l)[i.toNat]? = _
  have : i.toNat < l.length := by omega
  simp [il, List.getElem?_map, List.getD, List.getElem?_eq_getElem this]
theorem asInts_ints : ∀ l : List Int, D.asInts (il l) = some l
  | [] => rfl
  | i :: l => by simp only [il, List.map_cons, D.asInts]; rw [show D.asInts (List.map D.int l) = some l from asInts_ints l]; rfl
theorem asBls_bls : ∀ l : List Bool, D.asBls (l.map D.bl) = some l
  | [] => rfl
  | i :: l => by simp only [List.map_cons, D.asBls]; rw [asBls_bls l]; rfl
/-! the steps -/
def Out.next (o : Out) (g : Es) : Out := match o with
  | .nx ρ => g ρ
  | o => o
def Res.b1 (r : Res D) (g : D → Option D) : Res D := match r with
  | .ok x => ofO (g x)
  | .err x => .err x
  | .st => .st
def Res.b2 (r r' : Res D) (g : D → D → Option D) : Res D := match r, r' with
  | .ok x, .ok y => ofO (g x y)
  | .ok _, .err x => .err x
  | .ok _, .st => .st
  | .err x, _ => .err x
  | .st, _ => .st
def Res.tsts (r : Res Bool) (ρ : Rho) (f g : Es) : Out := match r with
  | .ok b => if b = true then f ρ else g ρ
  | .err x => .er x ρ
  | .st => .st
def Res.bo (r : Res D) (g : D → Option Bool) : Res Bool := match r with
  | .ok x => ofO (g x)
  | .err x => .err x
  | .st => .st
def Res.bb (r : Res Bool) (ρ : Rho) (f g : Eb) : Res Bool := match r with
  | .ok b => if b = true then f ρ else g ρ
  | .err x => .err x
  | .st => .st
def Res.bd (r : Res Bool) (ρ : Rho) (f g : Ev) : Res D := match r with
  | .ok b => if b = true then f ρ else g ρ
  | .err x => .err x
  | .st => .st
def Res.bc (r : Res D) (s : Res (List D)) : Res (List D) := match r, s with
  | .ok x, .ok xs => .ok (x :: xs)
  | .ok _, .err x => .err x
  | .ok _, .st => .st
  | .err x, _ => .err x
  | .st, _ => .st
def Res.bt (r : Res (List D)) (g : List D → Res D) : Res D := match r with
  | .ok x => g x
  | .err x => .err x
  | .st => .st
def Res.loop (r : Res (List D)) (G : D → Rho → Option Rho) (b : Es) (ρ : Rho) : Out := match r with
  | .ok ds => forO G b ds ρ
  | .err x => .er x ρ
  | .st => .st
def Out.stp (o : Out) (G : D → Rho → Option Rho) (b : Es) (ds : List D) : Out := match o with
  | .nx ρ2 => forO G b ds ρ2
  | .ct ρ2 => forO G b ds ρ2
  | .bk ρ2 => .nx ρ2
  | o => o
def Out.run (o : Out) : Res D := match o with
  | .rt d => .ok d
  | .nx _ => .ok .non
  | .er x _ => .err x
  | _ => .st
def lenIn (n : Nat) : Bool := decide (n ≤ LINE)
def app1 (ρ : Rho) (i : Nat) (ds : List D) (d : D) : Out := if ds.length < LINE then .nx (ρ.set i (.own (ds ++ [d]))) else .st

section
variable {ρ : Rho} {f g h : Es} {a b c : Ev} {t u : Eb} {fs : Ea} {i j : Nat} {d e : D} {ds es : List D} {x : Ex} {p q : Bool} {m n : Int} {s z : Str} {G : D → Rho → Option Rho} {k : D → Option D} {k2 k3 : D → D → Option D} {ko : D → Option Bool} {F : List D → Res D} {sl : Slot} {ns : List Int} {r r2 : Res D} {rs : Res (List D)} {kt : Value → Option Bool} {o : Option Bool} {v : Value}
theorem o0 : (Out.nx ρ).next g = g ρ := id rfl
theorem o1 : (Out.rt d).next g = .rt d := id rfl
theorem o2 : (Out.bk ρ).next g = .bk ρ := id rfl
theorem o3 : (Out.ct ρ).next g = .ct ρ := id rfl
theorem o4 : (Out.er x ρ).next g = .er x ρ := id rfl
theorem o5 : Out.st.next g = .st := id rfl
theorem o6 : (Res.ok d).b1 k = ofO (k d) := id rfl
theorem o7 : (Res.err x : Res D).b1 k = .err x := id rfl
theorem o8 : (Res.st : Res D).b1 k = .st := id rfl
theorem o9 : (Res.ok d).b2 (.ok e) k2 = ofO (k2 d e) := id rfl
theorem o10 : (Res.ok d).b2 (.err x) k2 = .err x := id rfl
theorem o11 : (Res.ok d).b2 .st k2 = .st := id rfl
theorem o12 : (Res.err x : Res D).b2 r k2 = .err x := id rfl
theorem o13 : (Res.st : Res D).b2 r k2 = .st := id rfl
theorem o14 : (Res.ok p).tsts ρ f g = if p = true then f ρ else g ρ := id rfl
theorem o15 : (Res.err x : Res Bool).tsts ρ f g = .er x ρ := id rfl
theorem o16 : (Res.st : Res Bool).tsts ρ f g = .st := id rfl
theorem o17 : (Res.ok d).bo ko = ofO (ko d) := id rfl
theorem o18 : (Res.err x : Res D).bo ko = .err x := id rfl
theorem o19 : (Res.st : Res D).bo ko = .st := id rfl
theorem o20 : (Res.ok p).bb ρ t u = if p = true then t ρ else u ρ := id rfl
theorem o21 : (Res.err x : Res Bool).bb ρ t u = .err x := id rfl
theorem o22 : (Res.st : Res Bool).bb ρ t u = .st := id rfl
theorem o23 : (Res.ok p).bd ρ a b = if p = true then a ρ else b ρ := id rfl
theorem o24 : (Res.err x : Res Bool).bd ρ a b = .err x := id rfl
theorem o25 : (Res.st : Res Bool).bd ρ a b = .st := id rfl
theorem o26 : (Res.ok d).bc (.ok ds) = .ok (d :: ds) := id rfl
theorem o27 : (Res.ok d).bc (.err x) = .err x := id rfl
theorem o28 : (Res.ok d).bc .st = .st := id rfl
theorem o29 : (Res.err x : Res D).bc rs = .err x := id rfl
theorem o30 : (Res.st : Res D).bc rs = .st := id rfl
theorem o31 : (Res.ok ds).bt F = F ds := id rfl
theorem o32 : (Res.err x : Res (List D)).bt F = .err x := id rfl
theorem o33 : (Res.st : Res (List D)).bt F = .st := id rfl
theorem o34 : (Res.ok ds).loop G f ρ = forO G f ds ρ := id rfl
theorem o35 : (Res.err x : Res (List D)).loop G f ρ = .er x ρ := id rfl
theorem o36 : (Res.st : Res (List D)).loop G f ρ = .st := id rfl
theorem o37 : (Out.nx ρ).stp G f ds = forO G f ds ρ := id rfl
theorem o38 : (Out.ct ρ).stp G f ds = forO G f ds ρ := id rfl
theorem o39 : (Out.bk ρ).stp G f ds = .nx ρ := id rfl
theorem o40 : (Out.rt d).stp G f ds = .rt d := id rfl
theorem o41 : (Out.er x ρ).stp G f ds = .er x ρ := id rfl
theorem o42 : Out.st.stp G f ds = .st := id rfl
theorem o43 : (Out.rt d).run = .ok d := id rfl
theorem o44 : (Out.nx ρ).run = .ok .non := id rfl
theorem o45 : (Out.er x ρ).run = .err x := id rfl
theorem o46 : (Out.bk ρ).run = .st := id rfl
theorem o47 : (Out.ct ρ).run = .st := id rfl
theorem o48 : Out.st.run = .st := id rfl
theorem at_seq : seqS f g ρ = (f ρ).next g := by unfold seqS Out.next; cases f ρ <;> rfl
theorem at_skip : skipS ρ = .nx ρ := id rfl
theorem at_asg : asgS i a ρ = (stE a ρ).then ρ fun d => .nx (ρ.set i (.v d)) := id rfl
def ownNew (ρ : Rho) (i : Nat) (d : D) : Out := match d with | .new ds => .nx (ρ.set i (.own ds)) | _ => .st
theorem own_new : ownNew ρ i (.new ds) = .nx (ρ.set i (.own ds)) := id rfl
theorem at_own : ownS i a ρ = (a ρ).then ρ (ownNew ρ i) := id rfl
theorem at_drop : dropS a ρ = (a ρ).then ρ fun _ => .nx ρ := id rfl
theorem at_ret : retS a ρ = (stE a ρ).then ρ .rt := id rfl
theorem at_retN : retN ρ = .rt .non := id rfl
def rO (s : Option Slot) : Out := match s with | some (.own ds) => .rt (.lst ds) | _ => .st
theorem rO_own : rO (some (.own ds)) = .rt (.lst ds) := id rfl
theorem at_retOwn : retOwn i ρ = rO ρ[i]? := id rfl
theorem at_if : ifS t f g ρ = (t ρ).tsts ρ f g := id rfl
theorem at_brk : brkS ρ = .bk ρ := id rfl
theorem at_cnt : cntS ρ = .ct ρ := id rfl
theorem at_raise : raiseS x ρ = .er x ρ := id rfl
def unp1 (is : List Nat) (ρ : Rho) (d : D) : Out := match (unpD d).bind fun ds => setAll is ds ρ with | some ρ' => .nx ρ' | none => .st
def ooS (o : Option Rho) : Out := match o with | some ρ' => .nx ρ' | none => .st
theorem ooS_some : ooS (some ρ) = .nx ρ := id rfl
theorem unp1_tup : unp1 is ρ (.tup ds) = ooS (setAll is ds ρ) := by unfold unp1 ooS unpD; rfl
theorem at_unp : unpS is a ρ = (stE a ρ).then ρ (unp1 is ρ) := id rfl
theorem setAll_nil : setAll [] [] ρ = some ρ := id rfl
theorem setAll_cons : setAll (i :: is) (d :: ds) ρ = setAll is ds (ρ.set i (.v d)) := id rfl
def par1 (r : Res (List D)) (i j : Nat) (ρ : Rho) : Out := match r with | .ok [a, b] => .nx ((ρ.set i (.v a)).set j (.v b)) | .err x => .er x ρ | _ => .st
theorem par1_ok : par1 (.ok [d, e]) i j ρ = .nx ((ρ.set i (.v d)).set j (.v e)) := id rfl
theorem par1_err : par1 (.err x) i j ρ = .er x ρ := id rfl
theorem at_par2 : par2S i j fs ρ = par1 (fs ρ) i j ρ := id rfl
def frz1 (s : Option Slot) (i : Nat) (f : Es) (ρ : Rho) : Out := match s with | some (.own ds) => f (ρ.set i (.v (.lst ds))) | _ => f ρ
theorem frz1_own : frz1 (some (.own ds)) i f ρ = f (ρ.set i (.v (.lst ds))) := id rfl
theorem frz1_v : frz1 (some (.v d)) i f ρ = f ρ := id rfl
theorem at_frz : frzS i f ρ = frz1 ρ[i]? i f ρ := id rfl
def app0 (s : Option Slot) (i : Nat) (a : Ev) (ρ : Rho) : Out := match s with | some (.own ds) => (stE a ρ).then ρ (app1 ρ i ds) | _ => .st
theorem app0_own : app0 (some (.own ds)) i a ρ = (stE a ρ).then ρ (app1 ρ i ds) := id rfl
theorem at_app : appS i a ρ = app0 ρ[i]? i a ρ := id rfl
theorem app1_ok (h : ds.length < 16777216) : app1 ρ i ds d = .nx (ρ.set i (.own (ds ++ [d]))) := if_pos h
def pop0 (s : Option Slot) (i : Nat) (ρ : Rho) : Out := match s with | some (.own ds) => if ds.isEmpty then .st else .nx (ρ.set i (.own ds.dropLast)) | _ => .st
theorem pop0_own : pop0 (some (.own ds)) i ρ = if ds.isEmpty then .st else .nx (ρ.set i (.own ds.dropLast)) := id rfl
theorem at_pop : popS i ρ = pop0 ρ[i]? i ρ := id rfl
def clr0 (s : Option Slot) (i : Nat) (ρ : Rho) : Out := match s with | some (.own ds) => .nx (ρ.set i (.own [])) | _ => .st
theorem clr0_own : clr0 (some (.own ds)) i ρ = .nx (ρ.set i (.own [])) := id rfl
theorem at_clr : clrS i ρ = clr0 ρ[i]? i ρ := id rfl
def aug1 (ρ : Rho) (i : Nat) (n : Int) (d : D) : Out := match d with | .int m => .nx (ρ.set i (.v (.int (n + m)))) | _ => .st
def aug0 (s : Option Slot) (i : Nat) (a : Ev) (ρ : Rho) : Out := match s with | some (.v (.int n)) => (a ρ).then ρ (aug1 ρ i n) | _ => .st
theorem aug0_int : aug0 (some (.v (.int n))) i a ρ = (a ρ).then ρ (aug1 ρ i n) := id rfl
theorem aug1_int : aug1 ρ i n (.int m) = .nx (ρ.set i (.v (.int (n + m)))) := id rfl
theorem at_aug : augS i a ρ = aug0 ρ[i]? i a ρ := id rfl
theorem at_for : forS fs G f ρ = (fs ρ).loop G f ρ := id rfl
theorem for_nil : forO G f [] ρ = .nx ρ := id rfl
def gnx (o : Option Rho) (G : D → Rho → Option Rho) (f : Es) (ds : List D) : Out := match o with | none => .st | some ρ1 => (f ρ1).stp G f ds
theorem gnx_some : gnx (some ρ) G f ds = (f ρ).stp G f ds := id rfl
theorem for_cons : forO G f (d :: ds) ρ = gnx (G d ρ) G f ds := by unfold gnx Out.stp; rw [forO]; all_goals (cases G d ρ with | none => rfl | some ρ1 => cases h : f ρ1 <;> simp only [h])
theorem at_gN : gN i d ρ = some (ρ.set i (.v d)) := id rfl
theorem at_gU : gU is (.tup ds) ρ = setAll is ds ρ := id rfl
theorem at_run : runF i f ds = (f (ds.map Slot.v ++ List.replicate i .un)).run := id rfl
theorem at_e1 : e1 k a ρ = (a ρ).b1 k := by unfold e1 Res.b1; cases a ρ <;> rfl
theorem at_e2 : e2 k2 a b ρ = (a ρ).b2 (b ρ) k2 := by unfold e2 Res.b2; cases a ρ <;> cases b ρ <;> rfl
theorem at_st : stE a ρ = (a ρ).b1 D.settle := by unfold stE; exact at_e1
def vO (s : Option Slot) : Res D := match s with | some (.v d) => .ok d | some (.own ds) => .ok (.bor ds) | _ => .st
theorem vO_v : vO (some (.v d)) = .ok d := id rfl
theorem vO_own : vO (some (.own ds)) = .ok (.bor ds) := id rfl
theorem at_var : varE i ρ = vO ρ[i]? := id rfl
theorem at_c : cE d ρ = .ok d := id rfl
theorem settle_non : D.settle (.non) = some (.non) := id rfl
theorem settle_bl : D.settle (.bl p) = some (.bl p) := id rfl
theorem settle_int : D.settle (.int n) = some (.int n) := id rfl
theorem settle_str : D.settle (.str s) = some (.str s) := id rfl
theorem settle_lst : D.settle (.lst ds) = some (.lst ds) := id rfl
theorem settle_tup : D.settle (.tup ds) = some (.tup ds) := id rfl
theorem settle_frz : D.settle (.frz ns) = some (.frz ns) := id rfl
theorem settle_new : D.settle (.new ds) = some (.lst ds) := id rfl
theorem add_int : addD (.int m) (.int n) = some (.int (m + n)) := id rfl
theorem add_str (h : s.length + z.length ≤ 16777216) : addD (.str s) (.str z) = some (.str (s ++ z)) := if_pos h
theorem add_tup (h : ds.length + es.length ≤ 16777216) : addD (.tup ds) (.tup es) = some (.tup (ds ++ es)) := if_pos h
theorem add_lst_lst (h : ds.length + es.length ≤ 16777216) : addD (.lst ds) (.lst es) = some (.new (ds ++ es)) := if_pos h
theorem add_lst_new (h : ds.length + es.length ≤ 16777216) : addD (.lst ds) (.new es) = some (.new (ds ++ es)) := if_pos h
theorem add_lst_bor (h : ds.length + es.length ≤ 16777216) : addD (.lst ds) (.bor es) = some (.new (ds ++ es)) := if_pos h
theorem add_new_lst (h : ds.length + es.length ≤ 16777216) : addD (.new ds) (.lst es) = some (.new (ds ++ es)) := if_pos h
theorem add_new_new (h : ds.length + es.length ≤ 16777216) : addD (.new ds) (.new es) = some (.new (ds ++ es)) := if_pos h
theorem add_new_bor (h : ds.length + es.length ≤ 16777216) : addD (.new ds) (.bor es) = some (.new (ds ++ es)) := if_pos h
theorem add_bor_lst (h : ds.length + es.length ≤ 16777216) : addD (.bor ds) (.lst es) = some (.new (ds ++ es)) := if_pos h
theorem add_bor_new (h : ds.length + es.length ≤ 16777216) : addD (.bor ds) (.new es) = some (.new (ds ++ es)) := if_pos h
theorem add_bor_bor (h : ds.length + es.length ≤ 16777216) : addD (.bor ds) (.bor es) = some (.new (ds ++ es)) := if_pos h
theorem sub_int : subD (.int m) (.int n) = some (.int (m - n)) := id rfl
theorem mul_r (h1 : -18446744073709551616 < n) (h2 : n < 18446744073709551616) : mulD (.int m) (.int n) = some (.int (m * n)) := if_pos (.inl (.inr ⟨by omega, by omega⟩))
theorem mul_l (h1 : -18446744073709551616 < m) (h2 : m < 18446744073709551616) : mulD (.int m) (.int n) = some (.int (m * n)) := if_pos (.inl (.inl ⟨by omega, by omega⟩))
theorem mul_x (h : mulOk m n) : mulD (.int m) (.int n) = some (.int (m * n)) := if_pos h
theorem fdiv_p (h : 0 < n) (h2 : n < 18446744073709551616) : fdivD (.int m) (.int n) = some (.int (m / n)) := if_pos ⟨h, by
    rcases Nat.eq_zero_or_pos n.natAbs with e | e
    · rw [e]; decide
    · exact Nat.lt_of_lt_of_le ((Nat.log2_lt (by omega)).mpr (show n.natAbs < 2 ^ 64 by omega)) (by decide)⟩
theorem mod_p (h : 0 < n) : modD (.int m) (.int n) = some (.int (m % n)) := if_pos h
theorem pow_p (h : 0 ≤ n) (h1 : n ≤ 1000000) (h2 : -18446744073709551616 < m) (h3 : m < 18446744073709551616) : powD (.int m) (.int n) = some (.int (m ^ n.toNat)) := if_pos ⟨h, h1, by omega⟩
theorem neg_int : negD (.int n) = some (.int (-n)) := id rfl
theorem lt_int : ltD (.int m) (.int n) = some (.bl (decide (m < n))) := id rfl
theorem le_int : leD (.int m) (.int n) = some (.bl (decide (m ≤ n))) := id rfl
theorem gt_int : gtD (.int m) (.int n) = some (.bl (decide (n < m))) := id rfl
theorem ge_int : geD (.int m) (.int n) = some (.bl (decide (n ≤ m))) := id rfl
theorem is_bl : isD (.bl p) (.bl q) = some (.bl (decide (p = q))) := id rfl
theorem ni_bl : notIsD (.bl p) (.bl q) = some (.bl (!decide (p = q))) := id rfl
theorem is_n_non : isD (.non) .non = some (.bl true) := id rfl
theorem ni_n_non : notIsD (.non) .non = some (.bl false) := id rfl
theorem is_n_bl : isD (.bl p) .non = some (.bl false) := id rfl
theorem ni_n_bl : notIsD (.bl p) .non = some (.bl true) := id rfl
theorem is_n_int : isD (.int n) .non = some (.bl false) := id rfl
theorem ni_n_int : notIsD (.int n) .non = some (.bl true) := id rfl
theorem is_n_str : isD (.str s) .non = some (.bl false) := id rfl
theorem ni_n_str : notIsD (.str s) .non = some (.bl true) := id rfl
theorem is_n_lst : isD (.lst ds) .non = some (.bl false) := id rfl
theorem ni_n_lst : notIsD (.lst ds) .non = some (.bl true) := id rfl
theorem is_n_tup : isD (.tup ds) .non = some (.bl false) := id rfl
theorem ni_n_tup : notIsD (.tup ds) .non = some (.bl true) := id rfl
theorem is_n_new : isD (.new ds) .non = some (.bl false) := id rfl
theorem ni_n_new : notIsD (.new ds) .non = some (.bl true) := id rfl
theorem is_n_bor : isD (.bor ds) .non = some (.bl false) := id rfl
theorem ni_n_bor : notIsD (.bor ds) .non = some (.bl true) := id rfl
theorem items_lst : D.items (.lst ds) = some ds := id rfl
theorem len_lst : lenD (.lst ds) = some (.int ds.length) := id rfl
theorem list_lst : listD (.lst ds) = some (.new ds) := id rfl
theorem tuple_lst : tupleD (.lst ds) = some (.tup ds) := id rfl
theorem ix_lst : ixD (.lst ds) (.int n) = L2.atI ds n := id rfl
theorem tru_lst : truD (.lst ds) = some (!ds.isEmpty) := id rfl
theorem rev_lst : revD (.lst ds) = some (.new ds.reverse) := id rfl
theorem slice_lst : sliceD (.lst ds) l2 h2 = some (.new (cutL ds l2 h2)) := id rfl
theorem ty_lst : tyOf (.lst ds) = some (.type "list") := id rfl
theorem sum_lst : sumD (.lst ds) = (D.asInts ds).map fun ns => .int ns.sum := id rfl
theorem all_lst : allD (.lst ds) = (D.asBls ds).map fun ns => .bl (ns.all id) := id rfl
theorem any_lst : anyD (.lst ds) = (D.asBls ds).map fun ns => .bl (ns.any id) := id rfl
theorem items_new : D.items (.new ds) = some ds := id rfl
theorem len_new : lenD (.new ds) = some (.int ds.length) := id rfl
theorem list_new : listD (.new ds) = some (.new ds) := id rfl
theorem tuple_new : tupleD (.new ds) = some (.tup ds) := id rfl
theorem ix_new : ixD (.new ds) (.int n) = L2.atI ds n := id rfl
theorem tru_new : truD (.new ds) = some (!ds.isEmpty) := id rfl
theorem rev_new : revD (.new ds) = some (.new ds.reverse) := id rfl
theorem slice_new : sliceD (.new ds) l2 h2 = some (.new (cutL ds l2 h2)) := id rfl
theorem ty_new : tyOf (.new ds) = some (.type "list") := id rfl
theorem sum_new : sumD (.new ds) = (D.asInts ds).map fun ns => .int ns.sum := id rfl
theorem all_new : allD (.new ds) = (D.asBls ds).map fun ns => .bl (ns.all id) := id rfl
theorem any_new : anyD (.new ds) = (D.asBls ds).map fun ns => .bl (ns.any id) := id rfl
theorem items_bor : D.items (.bor ds) = some ds := id rfl
theorem len_bor : lenD (.bor ds) = some (.int ds.length) := id rfl
theorem list_bor : listD (.bor ds) = some (.new ds) := id rfl
theorem tuple_bor : tupleD (.bor ds) = some (.tup ds) := id rfl
theorem ix_bor : ixD (.bor ds) (.int n) = L2.atI ds n := id rfl
theorem tru_bor : truD (.bor ds) = some (!ds.isEmpty) := id rfl
theorem rev_bor : revD (.bor ds) = some (.new ds.reverse) := id rfl
theorem slice_bor : sliceD (.bor ds) l2 h2 = some (.new (cutL ds l2 h2)) := id rfl
theorem ty_bor : tyOf (.bor ds) = some (.type "list") := id rfl
theorem sum_bor : sumD (.bor ds) = (D.asInts ds).map fun ns => .int ns.sum := id rfl
theorem all_bor : allD (.bor ds) = (D.asBls ds).map fun ns => .bl (ns.all id) := id rfl
theorem any_bor : anyD (.bor ds) = (D.asBls ds).map fun ns => .bl (ns.any id) := id rfl
theorem len_tup : lenD (.tup ds) = some (.int ds.length) := id rfl
theorem len_frz : lenD (.frz ns) = some (.int ns.length) := id rfl
theorem len_str (h : s.length ≤ 16777216) : lenD (.str s) = some (.int s.length) := if_pos h
theorem list_tup : listD (.tup ds) = some (.new ds) := id rfl
theorem list_frz : listD (.frz ns) = some (.new (ns.map .int)) := id rfl
theorem tuple_tup : tupleD (.tup ds) = some (.tup ds) := id rfl
theorem ix_tup : ixD (.tup ds) (.int n) = L2.atI ds n := id rfl
theorem tru_tup : truD (.tup ds) = some (!ds.isEmpty) := id rfl
theorem tru_bl : truD (.bl p) = some p := id rfl
theorem tru_int : truD (.int n) = some (n != 0) := id rfl
theorem tru_non : truD .non = some false := id rfl
theorem slice_tup : sliceD (.tup ds) l2 h2 = some (.tup (cutL ds l2 h2)) := id rfl
theorem slice_frz : sliceD (.frz ns) l2 h2 = some (.new ((cutL ns l2 h2).map .int)) := id rfl
theorem revT_tup : revT (.tup ds) = some (.tup ds.reverse) := id rfl
theorem int_int : intD (.int n) = some (.int n) := id rfl
theorem int_bl : intD (.bl p) = some (.int (if p then 1 else 0)) := id rfl
theorem abs_int : absD (.int n) = some (.int (if n < 0 then -n else n)) := id rfl
theorem max_int : maxD (.int m) (.int n) = some (.int (if n > m then n else m)) := id rfl
theorem min_int : minD (.int m) (.int n) = some (.int (if n < m then n else m)) := id rfl
theorem blO_bl : blO (.bl p) = some p := id rfl
theorem ty_non : tyOf (.non) = some (.type "NoneType") := id rfl
theorem ty_bl : tyOf (.bl p) = some (.type "bool") := id rfl
theorem ty_int : tyOf (.int n) = some (.type "int") := id rfl
theorem ty_str : tyOf (.str s) = some (.type "str") := id rfl
theorem ty_tup : tyOf (.tup ds) = some (.type "tuple") := id rfl
theorem at_tst : tstE a ρ = (a ρ).bo truD := by unfold tstE Res.bo; cases a ρ <;> rfl
theorem at_tst0 : tst0 a ρ = (a ρ).bo blO := by unfold tst0 Res.bo; cases a ρ <;> rfl
def nB (r : Res Bool) : Res Bool := r.bind fun b => .ok (!b)
theorem nB_ok : nB (.ok p) = .ok (!p) := id rfl
theorem nB_err : nB (.err x) = .err x := id rfl
theorem at_notB : notB t ρ = nB (t ρ) := id rfl
theorem at_andB : andB t u ρ = (t ρ).bb ρ u (fun _ => .ok false) := by unfold andB Res.bb; cases t ρ <;> rfl
theorem at_orB : orB t u ρ = (t ρ).bb ρ (fun _ => .ok true) u := by unfold orB Res.bb; cases t ρ <;> rfl
theorem at_andE : andE a b ρ = ((a ρ).bo blO).bd ρ b (fun _ => .ok (.bl false)) := by
    unfold andE Res.bo
    cases a ρ with
    | ok d => simp only [bind_ok]; cases blO d <;> rfl
    | _ => rfl
theorem at_orE : orE a b ρ = ((a ρ).bo blO).bd ρ (fun _ => .ok (.bl true)) b := by
    unfold orE Res.bo
    cases a ρ with
    | ok d => simp only [bind_ok]; cases blO d <;> rfl
    | _ => rfl
def nE (r : Res Bool) : Res D := r.bind fun b => .ok (.bl (!b))
theorem nE_ok : nE (.ok p) = .ok (.bl (!p)) := id rfl
theorem nE_err : nE (.err x) = .err x := id rfl
theorem at_notE : notE a ρ = nE ((a ρ).bo truD) := by
    unfold notE Res.bo nE
    cases a ρ with
    | ok d => rfl
    | _ => rfl
theorem at_ifE : ifE t a b ρ = (t ρ).bd ρ a b := by unfold ifE Res.bd; cases t ρ <;> rfl
theorem at_nilA : nilA ρ = .ok [] := id rfl
theorem at_consA : consA a fs ρ = (stE a ρ).bc (fs ρ) := by unfold consA Res.bc; cases stE a ρ <;> cases fs ρ <;> rfl
def tupL (ds : List D) : Res D := if ds.length ≤ LINE then .ok (.tup ds) else .st
def lstL (ds : List D) : Res D := if ds.length ≤ LINE then .ok (.new ds) else .st
theorem tupL_ok (h : ds.length ≤ 16777216) : tupL ds = .ok (.tup ds) := if_pos h
theorem lstL_ok (h : ds.length ≤ 16777216) : lstL ds = .ok (.new ds) := if_pos h
theorem at_tup : tupE fs ρ = (fs ρ).bt tupL := by unfold tupE Res.bt tupL; cases fs ρ <;> rfl
theorem at_lst : lstE fs ρ = (fs ρ).bt lstL := by unfold lstE Res.bt lstL; cases fs ρ <;> rfl
def callL (n : Nat) (F : List D → Res D) (ds : List D) : Res D := if ds.length = n then F ds else .st
theorem callL_0  : callL 0 F [] = F [] := id rfl
theorem callL_1 {y0 : D} : callL 1 F [y0] = F [y0] := id rfl
theorem callL_2 {y0 y1 : D} : callL 2 F [y0, y1] = F [y0, y1] := id rfl
theorem callL_3 {y0 y1 y2 : D} : callL 3 F [y0, y1, y2] = F [y0, y1, y2] := id rfl
theorem callL_4 {y0 y1 y2 y3 : D} : callL 4 F [y0, y1, y2, y3] = F [y0, y1, y2, y3] := id rfl
theorem callL_5 {y0 y1 y2 y3 y4 : D} : callL 5 F [y0, y1, y2, y3, y4] = F [y0, y1, y2, y3, y4] := id rfl
theorem at_call : callE i F fs ρ = (fs ρ).bt (callL i F) := by unfold callE Res.bt callL; cases fs ρ <;> rfl
def chK (r1 r2 : Res D) (k2 : D → D → Option D) : Res Bool := (r1.b2 r2 k2).bo blO
def ch2 (r : Res D) (c : Ev) (k3 : D → D → Option D) : Ev := fun ρ => r.b2 (c ρ) k3
def ch0 (r1 r2 : Res D) (kb : Res Bool) (c : Ev) (k3 : D → D → Option D) (ρ : Rho) : Res D := kb.bd ρ (ch2 r2 c k3) (fun _ => .ok (.bl false))
theorem at_chK : chK r r2 k2 = (r.b2 r2 k2).bo blO := id rfl
theorem at_ch2 : ch2 r c k3 ρ = r.b2 (c ρ) k3 := id rfl
theorem at_ch0 : ch0 r r2 (.ok p) c k3 ρ = if p = true then ch2 r2 c k3 ρ else .ok (.bl false) := id rfl
def chR (r1 r2 : Res D) (c : Ev) (k2 k3 : D → D → Option D) (ρ : Rho) : Res D := match r1, r2 with
  | .ok y0, .ok y1 => ((ofO (k2 y0 y1)).bo blO).bd ρ (ch2 (.ok y1) c k3) (fun _ => .ok (.bl false))
  | .ok _, .err x => .err x
  | .ok _, .st => .st
  | .err x, _ => .err x
  | .st, _ => .st
theorem chR_ok : chR (.ok d) (.ok e) c k2 k3 ρ = ((ofO (k2 d e)).bo blO).bd ρ (ch2 (.ok e) c k3) (fun _ => .ok (.bl false)) := id rfl
theorem at_ch : chE k2 k3 a b c ρ = chR (a ρ) (b ρ) c k2 k3 ρ := by
  unfold chE chR
  cases a ρ with
  | ok y0 =>
    cases b ρ with
    | ok y1 =>
      simp only [bind_ok]; unfold ch2 Res.b2
      cases k2 y0 y1 with | none => rfl | some d => cases h : blO d with | none => simp only [Option.bind_some, h]; simp only [ofO_none, bind_st, ofO_some, Res.bo, h, Res.bd] | some p => simp only [Option.bind_some, h, ofO_some, bind_ok, Res.bo, Res.bd]; cases p <;> (try rfl); cases c ρ <;> rfl
    | err x => rfl
    | st => rfl
  | err x => rfl
  | st => rfl
def isi1 (kt : Value → Option Bool) (d : D) : Option D := ((tyOf d).bind kt).map .bl
theorem at_isi : isiE kt a ρ = (a ρ).b1 (isi1 kt) := by unfold isiE; exact at_e1
def obl (o : Option Bool) : Option D := o.map .bl
theorem obl_some : obl (some p) = some (.bl p) := id rfl
theorem isi1_at : isi1 kt d = obl ((tyOf d).bind kt) := id rfl
def kit2 (o : Option Bool) (T2 : String) (v : Value) : Option Bool := match o with | some true => some true | some false => kitT T2 v | none => none
theorem kit2_t : kit2 (some true) T2 v = some true := id rfl
theorem kit2_f : kit2 (some false) T2 v = kitT T2 v := id rfl
theorem at_kitT2 : kitT2 T1 T2 v = kit2 (kitT T1 v) T2 v := by unfold kitT2 kit2; cases kitT T1 v with | none => rfl | some b => cases b <;> rfl
def slc (r : Res D) (lo hi : Res (Option Int)) : Res D := r.bind fun x => lo.bind fun l => hi.bind fun h => ofO (sliceD x l h)
theorem slc_ok : slc (.ok d) (.ok l2) (.ok h2) = ofO (sliceD d l2 h2) := id rfl
theorem at_slice : sliceE a l3 h3 ρ = slc (a ρ) (l3 ρ) (h3 ρ) := id rfl
theorem at_noO : noO ρ = .ok none := id rfl
def soO (r : Res D) : Res (Option Int) := r.bind fun d => match d with | .int i => .ok (some i) | _ => .st
theorem soO_int : soO (.ok (.int n)) = .ok (some n) := id rfl
theorem at_someO : someO a ρ = soO (a ρ) := id rfl
def bor0 (s : Option Slot) (i : Nat) (a : Ev) (ρ : Rho) : Res D := match s with | some (.own ds) => (a (ρ.set i (.v (.lst ds)))).bind fun d => if d.flat then .ok d else .st | _ => a ρ
def sq1 (d : D) : Res (List D) := ofO (seqO d)
theorem sq1_tup : sq1 (.tup ds) = .ok ds := id rfl
theorem sq1_lst : sq1 (.lst ds) = .ok ds := id rfl
def Res.bl1 (r : Res D) (g : D → Res (List D)) : Res (List D) := match r with | .ok x => g x | .err x => .err x | .st => .st
variable {gl : D → Res (List D)}
theorem bl1_ok : (Res.ok d).bl1 gl = gl d := id rfl
theorem bl1_err : (Res.err x : Res D).bl1 gl = .err x := id rfl
theorem bl1_st : (Res.st : Res D).bl1 gl = .st := id rfl
theorem at_seqI : seqI a ρ = (stE a ρ).bl1 sq1 := by unfold seqI Res.bl1 sq1; cases stE a ρ <;> rfl
def rg1 (d : D) : Res (List D) := match d with | .int j => if -(2 ^ 62) ≤ j ∧ j < 2 ^ 62 then .ok (rngI 0 j.toNat) else .st | _ => .st
theorem rg1_int (h1 : -4611686018427387904 ≤ n) (h2 : n < 4611686018427387904) : rg1 (.int n) = .ok (rngI 0 n.toNat) := if_pos ⟨by omega, by omega⟩
theorem at_rng1 : rng1I a ρ = (a ρ).bl1 rg1 := by unfold rng1I Res.bl1 rg1; cases a ρ <;> rfl
def rg2 (d e : D) : Res (List D) := match d, e with | .int i, .int j => if (-(2 ^ 62) ≤ i ∧ i < 2 ^ 62) ∧ (-(2 ^ 62) ≤ j ∧ j < 2 ^ 62) then .ok (rngI i (j - i).toNat) else .st | _, _ => .st
theorem rg2_int (h1 : -4611686018427387904 ≤ m) (h2 : m < 4611686018427387904) (h3 : -4611686018427387904 ≤ n) (h4 : n < 4611686018427387904) : rg2 (.int m) (.int n) = .ok (rngI m (n - m).toNat) := if_pos ⟨⟨by omega, by omega⟩, by omega, by omega⟩
def rg0 (r r2 : Res D) : Res (List D) := r.bind fun d => r2.bind fun e => rg2 d e
theorem rg0_ok : rg0 (.ok d) (.ok e) = rg2 d e := id rfl
theorem at_rng2 : rng2I a b ρ = rg0 (a ρ) (b ρ) := id rfl
def lc0 (G : D → Rho → Option Rho) (t : Eb) (a : Ev) (ρ : Rho) (ds : List D) : Res D := if ds.length ≤ LINE then (lcO G t a ρ ds).bt fun xs => .ok (.new xs) else .st
theorem lc0_ok (h : ds.length ≤ 16777216) : lc0 G t a ρ ds = (lcO G t a ρ ds).bt fun xs => .ok (.new xs) := if_pos h
theorem at_lc : lcE fs vs G t a ρ = (fs ρ).bt (lc0 G t a (wipeR ρ vs)) := by unfold lcE Res.bt lc0; cases fs ρ <;> (try rfl); rename_i ds; simp only [bind_ok]; split <;> (try rfl); cases lcO G t a (wipeR ρ vs) ds <;> rfl
theorem wipe_nil : wipeR ρ [] = ρ := id rfl
theorem wipe_cons : wipeR ρ (i :: vs) = (wipeR ρ vs).set i .un := id rfl
theorem at_yes : yesB ρ = .ok true := id rfl
end
/-- a comprehension without a test, each turn known -/
theorem lc_map {G : D → Rho → Option Rho} {t : Eb} {a : Ev} {ρ : Rho} {F : D → D} : ∀ {ds : List D}, (∀ d ∈ ds, ∃ ρ1, G d ρ = some ρ1 ∧ t ρ1 = .ok true ∧ stE a ρ1 = .ok (F d)) → lcO G t a ρ ds = .ok (ds.map F)
  | [], _ => rfl
  | d :: ds, h => by
    obtain ⟨ρ1, h1, h2, h3⟩ := h d (List.mem_cons_self ..)
    rw [lcO, h1]
    simp only [h2, h3, sure, bind_ok, if_true]
    rw [lc_map fun d m => h d (List.mem_cons_of_mem _ m)]
    rfl
theorem lc_filter {G : D → Rho → Option Rho} {t : Eb} {a : Ev} {ρ : Rho} {F : D → D} {p : D → Bool} : ∀ {ds : List D}, (∀ d ∈ ds, ∃ ρ1, G d ρ = some ρ1 ∧ t ρ1 = .ok (p d) ∧ (p d = true → stE a ρ1 = .ok (F d))) → lcO G t a ρ ds = .ok ((ds.filter p).map F)
  | [], _ => rfl
  | d :: ds, h => by
    obtain ⟨ρ1, h1, h2, h3⟩ := h d (List.mem_cons_self ..)
    have ih := lc_filter fun d m => h d (List.mem_cons_of_mem _ m)
    rw [lcO, h1]
    simp only [h2, sure, bind_ok]
    cases hp : p d with
    | true => simp only [h3 hp, if_true, bind_ok]; rw [ih, List.filter_cons_of_pos hp]; rfl
    | false => rw [if_neg (by decide), ih, List.filter_cons_of_neg (by simp [hp])]
end DL

end
namespace DL
open PySem L2

/-! ### try, except -/
open Classical in
/-- what comes out whatever a is -/
noncomputable def joinA (g : Addr → Out) : Out := if ∀ a, g a = g 0 then g 0 else .st
theorem joinA_of {g : Addr → Out} {o : Out} (h : ∀ a, g a = o) : joinA g = o := by
  unfold joinA
  rw [if_pos fun a => by rw [h a, h 0], h 0]
theorem joinA_const {o : Out} : joinA (fun _ => o) = o := joinA_of fun _ => rfl
def clrO (i : Nat) : Out → Out
  | .nx ρ => .nx (ρ.set i .un)
  | .bk ρ => .bk (ρ.set i .un)
  | .ct ρ => .ct (ρ.set i .un)
  | .rt d => .rt d
  | _ => .st
/-- does the clause take the error: what is known of single classes -/
def mtL : List (Addr × Bool) → Ex → Option Bool
  | l, ⟨.ref a, none⟩ => l.lookup a
  | _, _ => none
noncomputable def catchA (i : Nat) (mt : Ex → Option Bool) (fh : Addr → Es) : Out → Out
  | .er x ρ => (match mt x with
    | some true => joinA fun a => clrO i (fh a (ρ.set i (.exc a)))
    | some false => .er x ρ
    | none => .st)
  | o => o
noncomputable def tryAs (i : Nat) (fb : Es) (mt : Ex → Option Bool) (fh : Addr → Es) : Es := fun ρ => catchA i mt fh (fb ρ)
def noEr : Out → Out
  | .er _ _ => .st
  | o => o
def catchO (mt : Ex → Option Bool) (fh : Es) : Out → Out
  | .er x ρ => (match mt x with
    | some true => noEr (fh ρ)
    | some false => .er x ρ
    | none => .st)
  | o => o
def tryO (fb : Es) (mt : Ex → Option Bool) (fh : Es) : Es := fun ρ => catchO mt fh (fb ρ)
theorem mtL_ok {l : List (Addr × Bool)} {x : Ex} {b : Bool} (h : mtL l x = some b) : ∃ C, x = ⟨.ref C, none⟩ ∧ l.lookup C = some b := by
  obtain ⟨c, fs⟩ := x
  cases c <;> cases fs <;> first | exact ⟨_, rfl, h⟩ | cases h
def MtOk (K : PySem.W.Frag) (c : Value) (l : List (Addr × Bool)) : Prop := ∀ C b, l.lookup C = some b → PySem.W.exmOne K (.ref C) c = some b
theorem mt_nil {K : PySem.W.Frag} {c : Value} : MtOk K c [] := fun _ _ h => nomatch h
theorem mt_cons {K : PySem.W.Frag} {c : Value} {C : Addr} {b : Bool} {l : List (Addr × Bool)} (h : PySem.W.exmOne K (.ref C) c = some b) (r : MtOk K c l) : MtOk K c ((C, b) :: l) := fun C' b' e => by
  rw [List.lookup_cons] at e
  split at e
  · rename_i q
    cases e
    rw [eq_of_beq q]; exact h
  · exact r _ _ e
theorem kit_ofT {K : PySem.W.Frag} {A : Addr} {T : String} {b : Bool} (hm : PySem.W.kitMeta T = true) (h : PySem.W.subIn K (.ref A) (.type T) = some b) : PySem.W.kitOne K (.ref A) (.type T) = some b := by
  unfold PySem.W.kitOne
  have e : (Value.ref A == Value.type T) = false := rfl
  rw [e]
  show (if PySem.W.kitMeta T = true then PySem.W.subIn K (.ref A) (.type T) else none) = some b
  rw [if_pos hm]
  exact h
theorem kit_ofC {K : PySem.W.Frag} {A B : Addr} {b : Bool} (hd : PySem.W.hasDictIn K B = true) (ht : PySem.W.typeIn K (.ref B) = some (.type "type")) (h : PySem.W.subIn K (.ref A) (.ref B) = some b) (ne : b = true ∨ (Value.ref A == Value.ref B) = false) : PySem.W.kitOne K (.ref A) (.ref B) = some b := by
  obtain ⟨cd, hc, _⟩ := PySem.W.any_some hd
  have e2 : ((PySem.W.clsIn K B).isSome && PySem.W.typeIn K (.ref B) == some (.type "type")) = true := by rw [hc, ht] <;> rfl
  unfold PySem.W.kitOne
  have k : PySem.W.kitCls K (.ref A) (.ref B) = some b := by
    show (if ((PySem.W.clsIn K B).isSome && PySem.W.typeIn K (.ref B) == some (.type "type")) = true then PySem.W.subIn K (.ref A) (.ref B) else none) = some b
    rw [if_pos e2]; exact h
  rw [k]
  rcases ne with rfl | ne
  · split <;> rfl
  · rw [ne]; rfl
section
variable {X : Cx} {x n : Str} {c : Value} {i : Nat} {body suite : List Stmt} {b₀ : Stmt} {np pos pos' : Pos} {fb : Es} {W : WX} {K : PySem.W.Frag} {S0 H0 : Hp} {D0 : Ends}
theorem pss_guard {sts : List Stmt} {p : Prop} {t : TS} (h : p → PSs X sts t) : PSs X sts (fun D σ H => p ∧ t D σ H) := ⟨fun pins s σ H D I q => (h q.1).run pins s σ H D I q.2⟩
theorem Rel.unset {S H : Hp} {σ : St} {ρ : Rho} (R : Rel K S0 H0 S H σ ρ) (i : Nat) : Rel K S0 H0 S H (σ.set i none) (ρ.set i .un) := by
  have := R.wiped [i]
  exact this
/-- try .. except x as n: one class of errors -/
theorem s_tryAs {C0 : Addr} {b0 : Bool} {fh : Addr → Es} (hs : X.stack = X.env :: X.outer) (hf : X.env.frame = some X.env.locals) (hN : X.N.Nodup) (hi : X.N[i]? = some n) (hln : X.env.kindOf n = some .local) (hc : Names X x c) (tk : Takes X W)
    (hm : PySem.W.exmOne X.K (.ref C0) c = some b0)
    (hb : ∀ (W : WX) (pn : List (Addr × Obj)) (xe : Value → Shared → Prop), Takes (X.tr pn xe) W → PassesOwn (model X.prog X.w) X.A X.env xe → PSs (X.tr pn xe) body (TSt X.K W fb))
    (hsu : ∀ (a : Addr) (oe : Obj) (pn : List (Addr × Obj)), Zc (.ref C0) none oe → (∃ vs, oe.data = .fields vs) → PSs (X.suite a ((a, oe) :: pn)) (b₀ :: suite) (TSt X.K noW (fh a))) :
    PS X (.Try body [.ExceptHandler (some (.Name x np)) (some n) (b₀ :: suite) pos'] [] [] pos) (TSt X.K W (tryAs i fb (mtL [(C0, b0)]) fh)) := by
  refine PS.imp (ps_try_as (tb := fun W => TSt X.K W fb) (ts := fun a cls d => fun D σ H => (cls = .ref C0 ∧ d = none) ∧ TSt X.K noW (fh a) D σ H) hs hf hN hi hln hc tk hb (fun a oe cls d pn hz hd => pss_guard fun g => ?_)) fun D σ H q => ?_
  · obtain ⟨rfl, rfl⟩ := g
    exact hsu a oe pn hz hd
  · obtain ⟨S0, H0, S, ρ, R, p⟩ := q
    refine ⟨S0, H0, S, ρ, R, ?_⟩
    unfold tryAs at p
    cases e : fb ρ with
    | nx ρ' => rw [e] at p; exact p
    | rt d => rw [e] at p; exact p
    | bk ρ' => rw [e] at p; exact p
    | ct ρ' => rw [e] at p; exact p
    | st => rw [e] at p; exact p
    | er y ρ' =>
      rw [e] at p
      intro dd σ' S' H' R' hx
      have pm : PostS X.K W S0 H0 D (match mtL [(C0, b0)] y with
        | some true => joinA fun a => clrO i (fh a (ρ'.set i (.exc a)))
        | some false => .er y ρ'
        | none => .st) := p
      cases e2 : mtL [(C0, b0)] y with
      | none => rw [e2] at pm; exact pm.elim
      | some b =>
        obtain ⟨C, rfl, e3⟩ := mtL_ok e2
        rw [e2] at pm
        rw [List.lookup_cons] at e3
        have e4 : C = C0 ∧ b = b0 := by
          split at e3
          · rename_i q
            cases e3
            exact ⟨eq_of_beq q, rfl⟩
          · cases e3
        obtain ⟨rfl, rfl⟩ := e4
        have hd : dd = none := hx
        subst hd
        refine ⟨b, hm, fun hb a ha => ⟨⟨rfl, rfl⟩, ?_⟩, fun hb => ?_⟩
        · subst hb
          have pj : PostS X.K W S0 H0 D (joinA fun a => clrO i (fh a (ρ'.set i (.exc a)))) := pm
          unfold joinA at pj
          split at pj
          · rename_i all
            have p : PostS X.K W S0 H0 D (clrO i (fh a (ρ'.set i (.exc a)))) := by
              have this : clrO i (fh a (ρ'.set i (.exc a))) = clrO i (fh 0 (ρ'.set i (.exc 0))) := all a
              rw [this]; exact pj
            refine ⟨S0, H0, S', ρ'.set i (.exc a), R'.set (s := .exc a) rfl (fun ds z => nomatch z), ?_⟩
            cases e5 : fh a (ρ'.set i (.exc a)) with
            | nx ρ2 => rw [e5] at p; exact fun σ2 S2 H2 R2 => p _ _ _ (R2.unset i)
            | bk ρ2 => rw [e5] at p; exact fun σ2 S2 H2 R2 => p _ _ _ (R2.unset i)
            | ct ρ2 => rw [e5] at p; exact fun σ2 S2 H2 R2 => p _ _ _ (R2.unset i)
            | rt d => rw [e5] at p; exact p
            | er y2 ρ2 => rw [e5] at p; exact p.elim
            | st => rw [e5] at p; exact p.elim
          · exact pj.elim
        · subst hb
          exact pm none σ' S' H' R' rfl
/-- try .. except x: -/
theorem s_tryO {l : List (Addr × Bool)} {fh : Es} (hs : X.stack = X.env :: X.outer) (hf : X.env.frame = some X.env.locals) (hc : Names X x c) (tk : Takes X W) (hm : MtOk X.K c l)
    (hb : ∀ (W : WX) (pn : List (Addr × Obj)) (xe : Value → Shared → Prop), Takes (X.tr pn xe) W → PassesOwn (model X.prog X.w) X.A X.env xe → PSs (X.tr pn xe) body (TSt X.K W fb))
    (hsu : ∀ (a : Addr) (oe : Obj) (pn : List (Addr × Obj)), PSs (X.suite a ((a, oe) :: pn)) (b₀ :: suite) (TSt X.K noW fh)) :
    PS X (.Try body [.ExceptHandler (some (.Name x np)) none (b₀ :: suite) pos'] [] [] pos) (TSt X.K W (tryO fb (mtL l) fh)) := by
  refine PS.imp (ps_try_only (tb := fun W => TSt X.K W fb) (ts := fun a cls d => TSt X.K noW fh) hs hf hc tk hb (fun a oe cls d pn hz hd => hsu a oe pn)) fun D σ H q => ?_
  obtain ⟨S0, H0, S, ρ, R, p⟩ := q
  refine ⟨S0, H0, S, ρ, R, ?_⟩
  unfold tryO at p
  cases e : fb ρ with
  | nx ρ' => rw [e] at p; exact p
  | rt d => rw [e] at p; exact p
  | bk ρ' => rw [e] at p; exact p
  | ct ρ' => rw [e] at p; exact p
  | st => rw [e] at p; exact p
  | er y ρ' =>
    rw [e] at p
    intro dd σ' S' H' R' hx
    have p : PostS X.K W S0 H0 D (match mtL l y with
      | some true => noEr (fh ρ')
      | some false => .er y ρ'
      | none => .st) := p
    cases e2 : mtL l y with
    | none => rw [e2] at p; exact p.elim
    | some b =>
      rw [e2] at p
      obtain ⟨C, rfl, e3⟩ := mtL_ok e2
      refine ⟨b, hm _ _ e3, fun hb a ha => ⟨S0, H0, S', ρ', R', ?_⟩, fun hb => ?_⟩
      · subst hb
        have p : PostS X.K W S0 H0 D (noEr (fh ρ')) := p
        cases e5 : fh ρ' with
        | er y2 ρ2 => rw [e5] at p; exact p.elim
        | nx ρ2 => rw [e5] at p; exact p
        | bk ρ2 => rw [e5] at p; exact p
        | ct ρ2 => rw [e5] at p; exact p
        | rt d => rw [e5] at p; exact p
        | st => rw [e5] at p; exact p
      · subst hb
        exact p dd σ' S' H' R' hx
end
/-! isinstance(e, C) of the caught error -/
def isEx (i : Nat) (a : Addr) (k : Bool) : Ev := fun ρ => match ρ[i]? with
  | some (.exc a') => if a' = a then .ok (.bl k) else .st
  | _ => .st
section
variable {X : Cx} {a C0 : Addr} {oe : Obj} {pn : List (Addr × Obj)} {i : Nat} {k : Bool} {W : WX} {n : Str} {p p1 p2 pos : Pos}
theorem t_isEx {K : PySem.W.Frag} {v : V} {u : Value} (hu : ∀ u', RelV v u' → u' = u) (hk : PySem.W.kitOne K (.ref C0) u = some k) {σ : St} {H : Hp} {Q : VK} (h : T K W (isEx i a k) σ H Q) :
    tCB (rIsE K C0 a) (tCons (tVar i) (tCons (tC v) tNil)) σ H Q := by
  obtain ⟨S0, H0, S, ρ, R, q⟩ := h
  unfold isEx at q
  cases e : ρ[i]? with
  | none => rw [e] at q; exact q.elim
  | some s =>
    rw [e] at q
    cases s with
    | exc a' =>
      by_cases ha : a' = a
      · subst ha
        have q : PostD K W S H σ (if a' = a' then .ok (.bl k) else .st) Q := q
        rw [if_pos rfl] at q
        obtain ⟨y, h1, h2⟩ := R.at_ i _ e
        cases h2
        exact ⟨_, h1, v, u, k, rfl, hu, hk, q _ S H (Ext.refl R.sh) (.bl k)⟩
      · have q : PostD K W S H σ (if a' = a then .ok (.bl k) else .st) Q := q
        rw [if_neg ha] at q
        exact q.elim
    | _ => exact q.elim
/-- a class of the module -/
theorem d_isEx {x : Str} {C1 : Addr} (hz : Zc (.ref C0) none oe) (hd : ∃ vs, oe.data = .fields vs) (E0 : ExcC X.K C0) (hm : X.mg "isinstance" = none) (hC : X.mg x = some (.ref C1)) (hk : PySem.W.kitOne X.K (.ref C0) (.ref C1) = some k)
    (hi : PE (X.suite a ((a, oe) :: pn)) (.Name n p1) (tVar i)) (hg : Gl (X.suite a ((a, oe) :: pn)) "isinstance" := by rfl) (hgC : Gl (X.suite a ((a, oe) :: pn)) x := by rfl) (hdb : (x == ("__debug__" : Str)) = false := by decide)
    (h1 : starEach [.Name n p1, .Name x p2] (X.suite a ((a, oe) :: pn)).env = (false, eval (.Name n p1) (X.suite a ((a, oe) :: pn)).env) :: starEach [.Name x p2] (X.suite a ((a, oe) :: pn)).env := by rfl)
    (h2 : starEach [.Name x p2] (X.suite a ((a, oe) :: pn)).env = (false, eval (.Name x p2) (X.suite a ((a, oe) :: pn)).env) :: starEach [] (X.suite a ((a, oe) :: pn)).env := by rfl)
    (hpl : (backTo pos (starEach [.Name x p2] (X.suite a ((a, oe) :: pn)).env)).any (·.1) = false := by rfl) :
    PE (X.suite a ((a, oe) :: pn)) (.Call (.Name "isinstance" p) [.Name n p1, .Name x p2] [] pos) (T X.K W (isEx i a k)) :=
  PE.imp (pe_callB (call_isE E0 hz hd) hg hm (by decide +kernel) (pa_cons hi (pa_cons (pe_glob (v := .ref C1) hgC hC rfl hdb) pa_nil h2) h1) (by decide) (by decide) h1 hpl) fun _ _ _ h => t_isEx (v := .ref C1) (u := .ref C1) (fun u' r => r) hk h
/-- a built-in class -/
theorem d_isExT {T1 : String} (hz : Zc (.ref C0) none oe) (hd : ∃ vs, oe.data = .fields vs) (E0 : ExcC X.K C0) (hm : X.mg "isinstance" = none) (hT : X.mg (Str.ofString T1) = none) (hv : bootBuiltins (Str.ofString T1) = some (.type T1)) (hk : PySem.W.kitOne X.K (.ref C0) (.type T1) = some k)
    (hi : PE (X.suite a ((a, oe) :: pn)) (.Name n p1) (tVar i)) (hg : Gl (X.suite a ((a, oe) :: pn)) "isinstance" := by rfl) (hgT : Gl (X.suite a ((a, oe) :: pn)) (Str.ofString T1) := by rfl) (hn2 : (Str.ofString T1) ≠ "__name__" := by decide) (hd2 : ((Str.ofString T1) == ("__debug__" : Str)) = false := by decide)
    (h1 : starEach [.Name n p1, .Name (Str.ofString T1) p2] (X.suite a ((a, oe) :: pn)).env = (false, eval (.Name n p1) (X.suite a ((a, oe) :: pn)).env) :: starEach [.Name (Str.ofString T1) p2] (X.suite a ((a, oe) :: pn)).env := by rfl)
    (h2 : starEach [.Name (Str.ofString T1) p2] (X.suite a ((a, oe) :: pn)).env = (false, eval (.Name (Str.ofString T1) p2) (X.suite a ((a, oe) :: pn)).env) :: starEach [] (X.suite a ((a, oe) :: pn)).env := by rfl)
    (hpl : (backTo pos (starEach [.Name (Str.ofString T1) p2] (X.suite a ((a, oe) :: pn)).env)).any (·.1) = false := by rfl) :
    PE (X.suite a ((a, oe) :: pn)) (.Call (.Name "isinstance" p) [.Name n p1, .Name (Str.ofString T1) p2] [] pos) (T X.K W (isEx i a k)) :=
  PE.imp (pe_callB (call_isE E0 hz hd) hg hm (by decide +kernel) (pa_cons hi (pa_cons (pe_bltn (v := .ty T1) hgT hT hv rfl hn2 hd2) pa_nil h2) h1) (by decide) (by decide) h1 hpl) fun _ _ _ h => t_isEx (v := .ty T1) (u := .type T1) (fun u' r => r) hk h
end
/-! ### unpacking a tuple or a list -/
def unpDA : D → Option (List D)
  | .tup ds => some ds
  | .lst ds => some ds
  | _ => none
def unp1A (is : List Nat) (ρ : Rho) (d : D) : Out := match (unpDA d).bind fun ds => setAll is ds ρ with
  | some ρ' => .nx ρ'
  | none => .st
def unpAS (is : List Nat) (f : Ev) : Es := fun ρ => (stE f ρ).then ρ (unp1A is ρ)
theorem at_unpA {is : List Nat} {f : Ev} {ρ : Rho} : unpAS is f ρ = (stE f ρ).then ρ (unp1A is ρ) := id rfl
theorem unp1A_tup {is : List Nat} {ds : List D} {ρ : Rho} : unp1A is ρ (.tup ds) = ooS (setAll is ds ρ) := by unfold unp1A ooS unpDA; rfl
theorem unp1A_lst {is : List Nat} {ds : List D} {ρ : Rho} : unp1A is ρ (.lst ds) = ooS (setAll is ds ρ) := by unfold unp1A ooS unpDA; rfl
section
variable {X : Cx} {W : WX} {a : Expr} {f : Ev} {pos : Pos}
theorem s_unpA {is : List Nat} {es : List Expr} {k : Nat} {tp : Pos} (ha : PE X a (T X.K W f)) (hc : X.calm = true) (hg : PGs X es (gsN is))
    (hn : (assignEach es X.env).length = is.length := by rfl) (hst : (assignEach es X.env).findIdx? (·.1) = none := by rfl)
    (hs : swapsWithSole [.Tuple es k tp] a pos.line X.env = pure false := by rfl) (hw : swappedStores [.Tuple es k tp] a X.env = pure none := by rfl)
    (h1 : (assignEach [.Tuple es k tp] X.env).map (·.2) = [assign (.Tuple es k tp) X.env] := by rfl) : PS X (.Assign [.Tuple es k tp] a pos) (TSt X.K W (unpAS is f)) := by
  have g1 := pg_tup (k := k) (pos := tp) hc hg hn hst
  have g2 := pg_lst (k := k) (pos := tp) hc hg hn hst
  have g3 : PG X (.Tuple es k tp) (fun v σ H Q => gTup X.K is.length (gsN is) v σ H Q ∨ gLst X.K is.length (gsN is) v σ H Q) :=
    ⟨fun pins s σ H v u Q I r h => h.elim (fun h => g1.run pins s σ H v u Q I r h) (fun h => g2.run pins s σ H v u Q I r h)⟩
  refine PS.imp (ps_asg ha g3 hs hw h1) fun D σ H q => ?_
  obtain ⟨S0, H0, S, ρ, R, p⟩ := q
  refine t_thenS R p fun d v S' H' ex R' r p => ?_
  have pm : PostS X.K W S0 H0 D (match (unpDA d).bind fun ds => setAll is ds ρ with
    | some ρ' => .nx ρ'
    | none => .st) := p
  cases e : (unpDA d).bind fun ds => setAll is ds ρ with
  | none => rw [e] at pm; exact pm.elim
  | some ρ' =>
    rw [e] at pm
    cases d with
    | tup ds => exact .inl (gU_ok S0 H0 S' H' σ ρ v (.tup ds) ρ' _ R' r e fun σ' R2 => pm σ' S' H' R2)
    | lst ds =>
      have e : setAll is ds ρ = some ρ' := e
      cases r with
      | lst h1 r1 => exact .inr ⟨_, _, rfl, SqL.of (R'.sh _ _ h1), by rw [r1.length, setAll_length e], gsN_ok R' r1 e fun σ' R2 => pm σ' S' H' R2⟩
    | _ => cases e
end
end DL

namespace DL
open PySem L2 PySem.Spec

/-! ### a > b of ints or of tuples of ints -/
def gtLex (ns ms : List Int) : Bool := Ob.lexAt (fun j => decide (ns.getD j 0 = ms.getD j 0)) (fun j => decide (ms.getD j 0 < ns.getD j 0)) (decide (ns.length > ms.length)) 0 (min ns.length ms.length)
def rGtT (K : PySem.W.Frag) : R2 := fun x y H Q => ∃ (a b : Addr) (ns ms : List Int), x = .ref a ∧ y = .ref b ∧ SqT K H a (ns.map V.int) ∧ SqT K H b (ms.map V.int) ∧ Q (.bl (gtLex ns ms)) H
theorem op_gtT {X : Cx} (hu : X.A.units < cLine) : OpR X (compareOp .Gt) (rGtT X.K) := by
  intro pins s σ H x y v u Q I rx ry h
  obtain ⟨a, b, ns, ms, rfl, rfl, ha, hb, q⟩ := h
  cases rx
  cases ry
  obtain ⟨its, r1, p1, _⟩ := I.tuple ha
  obtain ⟨its2, r2, p2, _⟩ := I.tuple hb
  have i1 : PyProof.Rows.IntsAre its ns := Vals.ints r1
  have i2 : PyProof.Rows.IntsAre its2 ms := Vals.ints r2
  have e1 : its.toArray.size = ns.length := by rw [List.size_toArray]; exact i1.length
  have e2 : its2.toArray.size = ms.length := by rw [List.size_toArray]; exact i2.length
  have at1 : ∀ j (h1 : j < its.toArray.size), ∃ t, its.toArray[j] = .int (ns.getD j 0) t := fun j h1 => PyProof.Rows.IntsAre.int_at i1 _ _ (by simp at h1; simp [h1])
  have at2 : ∀ j (h1 : j < its2.toArray.size), ∃ t, its2.toArray[j] = .int (ms.getD j 0) t := fun j h1 => PyProof.Rows.IntsAre.int_at i2 _ _ (by simp at h1; simp [h1])
  have R := Ob.RcOp.tuples_gt (A := X.A) (s := s) (e := fun j => decide (ns.getD j 0 = ms.getD j 0)) (r := fun j => decide (ms.getD j 0 < ns.getD j 0)) p1 p2 hu (fun j h1 h2 => by
    obtain ⟨t, et⟩ := at1 j h1
    obtain ⟨t', et'⟩ := at2 j h2
    rw [et, et']
    have z : (ns.getD j 0 == ms.getD j 0) = decide (ns.getD j 0 = ms.getD j 0) := by
      by_cases q : ns.getD j 0 = ms.getD j 0
      · rw [decide_eq_true q]; exact beq_iff_eq.mpr q
      · rw [decide_eq_false q]; exact beq_eq_false_iff_ne.mpr q
    rw [← z]
    exact SeqAt.EqAt.int_int _ _ _ _) (fun j h1 h2 _ => by
    obtain ⟨t, et⟩ := at1 j h1
    obtain ⟨t', et'⟩ := at2 j h2
    rw [et, et']
    exact Ob.RcOp.gt_int _ _ _ _)
  rw [e1, e2] at R
  have z : wpAny (model X.prog X.w) X.A (compareOp .Gt (.ref a) (.ref b)) (EP X pins σ Q) X.xe s := R X.prog X.w X.xe (EP X pins σ Q) ⟨.bl _, H, I, rfl, q⟩
  exact z
def gtA (x y : D) : Option D := match x, y with
  | .int i, .int j => some (.bl (decide (j < i)))
  | .tup xs, .tup ys => (match D.asInts xs, D.asInts ys with
    | some ns, some ms => some (.bl (gtLex ns ms))
    | _, _ => none)
  | _, _ => none
section
variable {X : Cx} {W : WX} {a b : Expr} {fa fb : Ev} {pos : Pos}
def rGtA (K : PySem.W.Frag) : R2 := fun x y H Q => (rI0 fun i j => .bl (decide (j < i))) x y H Q ∨ rGtT K x y H Q
theorem op_gtA (hu : X.A.units < cLine) : OpR X (compareOp .Gt) (rGtA X.K) := op_gt.or (op_gtT hu)
theorem gtA_ok : Serves2 X.K gtA (rGtA X.K) := by
  intro S H v w dx dy Q hs r1 r2 p
  unfold gtA at p
  split at p
  · cases r1
    cases r2
    exact .inl ⟨_, _, rfl, rfl, p.val hs (.bl _)⟩
  · rename_i xs ys
    cases r1 with
    | tup h1 q1 =>
      cases r2 with
      | tup h2 q2 =>
        cases e1 : D.asInts xs with
        | none => rw [e1] at p; exact p.elim
        | some ns =>
          cases e2 : D.asInts ys with
          | none => rw [e1, e2] at p; exact p.elim
          | some ms =>
            rw [e1, e2] at p
            rw [asInts_of e1] at q1
            rw [asInts_of e2] at q2
            rw [q1.ints] at h1
            rw [q2.ints] at h2
            exact .inr ⟨_, _, ns, ms, rfl, rfl, Same.seqT hs h1, Same.seqT hs h2, p.val hs (.bl _)⟩
  · exact p.elim
theorem d_gtA (hu : X.A.units < cLine) (ha : PE X a (T X.K W fa)) (hb : PE X b (T X.K W fb)) : PE X (.Compare a [.Gt] [b] pos) (T X.K W (e2 gtA fa fb)) := d_cmp (op_gtA hu) gtA_ok (nomark _) ha hb
theorem t_gtA (hu : X.A.units < cLine) (ha : PE X a (T X.K W fa)) (hb : PE X b (T X.K W fb)) : PT X (.Compare a [.Gt] [b] pos) (TB X.K W (tst0 (e2 gtA fa fb))) := t_cmp (op_gtA hu) gtA_ok (nomark _) ha hb
end
theorem uLt {u : Nat} (h : u + 64 < cLine) : u < cLine := by omega
theorem gtA_int {m n : Int} : gtA (.int m) (.int n) = some (.bl (decide (n < m))) := id rfl
theorem gtLex2 (a b c d : Int) : gtLex [a, b] [c, d] = if a = c then decide (d < b) else decide (c < a) := by
  unfold gtLex
  have e0 : min [a, b].length [c, d].length = 2 := rfl
  rw [e0, Ob.lexAt_succ, Ob.lexAt_succ, Ob.lexAt_zero]
  simp only [List.getD_cons_zero, List.getD_cons_succ, decide_eq_true_eq]
  by_cases h : a = c
  · rw [if_pos h, if_pos h]
    by_cases h2 : b = d
    · rw [if_pos h2]; subst h2; simp
    · rw [if_neg h2]
  · rw [if_neg h, if_neg h]
theorem gtA_2 {a b c d : Int} : gtA (.tup [.int a, .int b]) (.tup [.int c, .int d]) = some (.bl (if a = c then decide (d < b) else decide (c < a))) := by
  show some (D.bl (gtLex [a, b] [c, d])) = _
  rw [gtLex2]
end DL

namespace DL
open PySem PySem.Spec PyProof.Rows L2

/-! ### zip of many: what is walked -/
structure ZI where
  it : Addr
  l : Addr
  xs : Array Value
  tu : Bool
def ZI.At (e : ZI) (h : Heap) (i : Nat) : Prop := (e.tu = true ∧ h.IsTupleIter e.it e.l i) ∨ (e.tu = false ∧ h.IsListIter e.it e.l i)
def ZI.Seq (e : ZI) (h : Heap) : Prop := (e.tu = true ∧ h.IsTuple e.l e.xs) ∨ (e.tu = false ∧ h.IsList e.l e.xs)
theorem ZI.At.keep {e : ZI} {h h' : Heap} {i : Nat} (a : e.At h i) (k : ∀ o, h.get? e.it = some o → h'.get? e.it = some o) : e.At h' i := by
  rcases a with ⟨t, o, a1, a2⟩ | ⟨t, o, a1, a2⟩
  · exact .inl ⟨t, o, k o a1, a2⟩
  · exact .inr ⟨t, o, k o a1, a2⟩
theorem ZI.Seq.keep {e : ZI} {h h' : Heap} (a : e.Seq h) (k : ∀ o, h.get? e.l = some o → h'.get? e.l = some o) : e.Seq h' := by
  rcases a with ⟨t, o, a1, a2⟩ | ⟨t, o, a1, a2⟩
  · exact .inl ⟨t, o, k o a1, a2⟩
  · exact .inr ⟨t, o, k o a1, a2⟩
section
variable {prog : Program} {w : World} {A : Around} {E : Value → Shared → Prop} {s : Shared}
theorem nx_item {e : ZI} {i : Nat} {x : Value} {Q : Value → Shared → Prop} (a : e.At s.heap i) (b : e.Seq s.heap) (hx : e.xs[i]? = some x)
    (hQ : ∀ h', e.At h' (i + 1) → Heap.SameBut e.it s.heap h' → Q x { s with heap := h' }) : wpAny (model prog w) A (Builtin.SmallTypes.nextOf (.ref e.it)) Q E s := by
  rcases a with ⟨t, a⟩ | ⟨t, a⟩
  · rcases b with ⟨_, b⟩ | ⟨t2, b⟩
    · exact RZ.nextOf_tuple_item a b hx fun h' k1 k2 => hQ h' (.inl ⟨t, k1⟩) k2
    · rw [t] at t2; cases t2
  · rcases b with ⟨t2, b⟩ | ⟨_, b⟩
    · rw [t] at t2; cases t2
    · exact wpAny_nextOf_list_item a b hx fun h' k1 k2 => hQ h' (.inr ⟨t, k1⟩) k2
theorem nx_end {e : ZI} {i : Nat} {Q : Value → Shared → Prop} (hh : A.handled = none) (a : e.At s.heap i) (b : e.Seq s.heap) (hx : e.xs[i]? = none)
    (hE : ∀ h' c, Heap.ExtBut e.it s.heap h' → (∃ o, h'.get? c = some o ∧ o.cls = .type "StopIteration") → E (.ref c) { s with heap := h' }) : wpAny (model prog w) A (Builtin.SmallTypes.nextOf (.ref e.it)) Q E s := by
  rcases a with ⟨t, a⟩ | ⟨t, a⟩
  · rcases b with ⟨_, b⟩ | ⟨t2, b⟩
    · exact RZ.nextOf_tuple_end hh a b hx hE
    · rw [t] at t2; cases t2
  · rcases b with ⟨t2, b⟩ | ⟨_, b⟩
    · rw [t] at t2; cases t2
    · exact wpAny_nextOf_list_end hh a b hx hE
end
/-- the zip object: its mark, its flag, the iterators' tuple, the tuple for reuse -/
def ZRec (h : Heap) (z TI TO : Addr) (f0 f1 : Value) : Prop := h.get? z = some { cls := .type "zip", dict := none, data := .fields #[f0, f1, .bool false, .ref TI, .ref TO], slots := #[] }
def TupAt (h : Heap) (T : Addr) (vs : List Value) : Prop := h.get? T = some { cls := .type "tuple", data := .seq vs.toArray }
/-- all apart -/
structure ZAp (z TI TO : Addr) (Z : List ZI) : Prop where
  nd : (Z.map (·.it)).Nodup
  TIz : TI ≠ z
  TOz : TO ≠ z
  TIO : TI ≠ TO
  iz : ∀ e ∈ Z, e.it ≠ z ∧ e.it ≠ TI ∧ e.it ≠ TO
  lz : ∀ e ∈ Z, e.l ≠ z ∧ e.l ≠ TI ∧ e.l ≠ TO
  li : ∀ e ∈ Z, ∀ f ∈ Z, e.l ≠ f.it
theorem nodup_at {α : Type} {l : List α} (nd : l.Nodup) : ∀ {i j : Nat} {x : α}, l[i]? = some x → l[j]? = some x → i = j := by
  intro i j x h1 h2
  obtain ⟨a1, b1⟩ := List.getElem?_eq_some_iff.mp h1
  obtain ⟨a2, b2⟩ := List.getElem?_eq_some_iff.mp h2
  have P := List.pairwise_iff_getElem.mp nd
  rcases Nat.lt_trichotomy i j with h | h | h
  · exact (P i j a1 a2 h (b1.trans b2.symm)).elim
  · exact h
  · exact (P j i a2 a1 h (b2.trans b1.symm)).elim
section
variable {prog : Program} {w : World} {A : Around} {E : Value → Shared → Prop} {s : Shared}
/-- the draw of one item each, one behind another: what holds ahead of the k-th -/
def Drew (s : Shared) (Z : List ZI) (i k : Nat) (s' : Shared) : Prop := ∃ h', s' = { s with heap := h' } ∧ h'.objs.size = s.heap.objs.size ∧
  (∀ (j : Nat) (e : ZI), Z[j]? = some e → e.At h' (if j < k then i + 1 else i)) ∧ ∀ c o, (∀ e ∈ Z, c ≠ e.it) → s.heap.get? c = some o → h'.get? c = some o
theorem Drew.next {Z : List ZI} {i k : Nat} {s' : Shared} (d : Drew s Z i k s') (nd : (Z.map (·.it)).Nodup) (li : ∀ e ∈ Z, ∀ f ∈ Z, e.l ≠ f.it) (sq : ∀ e ∈ Z, e.Seq s.heap) {e : ZI} (he : Z[k]? = some e) {x : Value} (hx : e.xs[i]? = some x)
    {Q : Value → Shared → Prop} (hQ : ∀ s'', Drew s Z i (k + 1) s'' → Q x s'') : wpAny (model prog w) A (Builtin.SmallTypes.nextOf (.ref e.it)) Q E s' := by
  obtain ⟨h', rfl, hsz, hat, hk⟩ := d
  have me : e ∈ Z := List.mem_of_getElem? he
  have a := hat k e he
  rw [if_neg (Nat.lt_irrefl k)] at a
  refine nx_item (s := { s with heap := h' }) a ((sq e me).keep fun o q => hk _ o (fun f mf => li e me f mf) q) hx fun h'' a2 sb => hQ _ ⟨h'', rfl, sb.1.trans hsz, fun j f hf => ?_, fun c o hc q => ?_⟩
  · by_cases hj : j = k
    · subst hj
      rw [he] at hf
      cases hf
      rw [if_pos (Nat.lt_succ_self j)]
      exact a2
    · have b := hat j f hf
      have ne : f.it ≠ e.it := fun q => hj (nodup_at nd (x := e.it) (by rw [List.getElem?_map, hf, Option.map_some, q]) (by rw [List.getElem?_map, he]; rfl))
      have e1 : (if j < k + 1 then i + 1 else i) = (if j < k then i + 1 else i) := by
        by_cases h1 : j < k
        · rw [if_pos h1, if_pos (by omega)]
        · rw [if_neg h1, if_neg (by omega)]
      rw [e1]
      exact b.keep fun o q => (sb.2 _ ne).trans q
  · exact (sb.2 c (hc e me)).trans (hk c o hc q)
theorem look_alive {a : Addr} {Q : Option Obj → Shared → Prop} (h : Q (s.heap.get? a) s) : wpAny (model prog w) A (loadIfAlive a) Q E s := fun Γ p _ => by
  unfold loadIfAlive
  rw [Sem.wp_loadIfAlive]
  exact h
theorem flag_set {z TI TO : Addr} {f0 : Value} {b : Bool} {P : Bool → Shared → Prop} (hz : ZRec s.heap z TI TO f0 (.bool b)) (h : ∀ h1, ZRec h1 z TI TO f0 (.bool true) → Heap.SameBut z s.heap h1 → P false { s with heap := h1 }) :
    wpAny (model prog w) A (if (Value.bool b != Value.bool true) = true then (do setField (.ref z) 1 (.bool true); pure false) else pure false) P E s := by
  cases b with
  | true => exact wpAny_pure (h s.heap hz (Heap.SameBut.refl _ _))
  | false => exact wpAny_bind (wpAny_setField_rec hz (by simp) fun h1 k1 k2 => wpAny_pure (h h1 k1 k2))
/-- the first of the two ways: the tuple that was handed out is still there -/
theorem zip_alive {z TI TO a : Addr} {b : Bool} {oa : Obj} {Z : List ZI} {i : Nat} {vs : List Value} {Q : Value → Shared → Prop} (D : ZAp z TI TO Z) (ne : Z ≠ [])
    (hz : ZRec s.heap z TI TO (rawInt a) (.bool b)) (hTI : TupAt s.heap TI (Z.map fun e => .ref e.it)) (ha : s.heap.get? a = some oa)
    (at_ : ∀ e ∈ Z, e.At s.heap i) (sq : ∀ e ∈ Z, e.Seq s.heap) (hv : vs.length = Z.length) (hvs : ∀ (j : Nat) (e : ZI), Z[j]? = some e → ∃ x, e.xs[i]? = some x ∧ vs[j]? = some x) (hl : Z.length ≤ sizeLine)
    (hQ : ∀ h', ZRec h' z TI TO (rawInt a) (.bool true) → (∀ e ∈ Z, e.At h' (i + 1)) → TupAt h' s.heap.objs.size vs → h'.objs.size = s.heap.objs.size + 1 →
      (∀ c o, c ≠ z → (∀ e ∈ Z, c ≠ e.it) → s.heap.get? c = some o → h'.get? c = some o) → Q (.ref s.heap.objs.size) { s with heap := h' }) :
    wpAny (model prog w) A (Builtin.«zip.__next__» ⟨[.ref z], []⟩) (fun fin s' => ∃ v, fin = .done (.ret v) ∧ Q v s') E s := by
  show wpAny _ _ (field (.ref z) 2 >>= _) _ _ _
  refine wpAny_bind (wpAny_field (x := .bool false) hz rfl rfl ?_)
  show wpAny _ _ (field (.ref z) 3 >>= _) _ _ _
  refine wpAny_bind (wpAny_field (x := .ref TI) hz rfl rfl ?_)
  refine wpAny_bind (wpAny_seqItems hTI rfl ?_)
  have em : ((Z.map fun e => Value.ref e.it).toArray.isEmpty) = false := by
    cases Z with
    | nil => exact (ne rfl).elim
    | cons e Z => rfl
  dsimp only
  rw [em]
  rw [if_neg Bool.false_ne_true]
  refine wpAny_bind ?_
  unfold Builtin.SmallTypes.ownedTupleIsFree
  refine wpAny_bind (wpAny_field (x := rawInt a) hz rfl rfl ?_)
  show wpAny _ _ (loadIfAlive (Int.toNat (a : Int)) >>= _) _ _ _
  rw [Int.toNat_natCast]
  refine wpAny_bind (look_alive ?_)
  rw [ha]
  dsimp only [Option.isNone]
  rw [if_neg Bool.false_ne_true]
  refine wpAny_bind (wpAny_field (x := .bool b) hz rfl rfl ?_)
  refine flag_set hz fun h1 hz1 sb1 => ?_
  rw [if_neg Bool.false_ne_true]
  have d0 : Drew { s with heap := h1 } Z i 0 { s with heap := h1 } := ⟨h1, rfl, rfl, fun j e he => by
    rw [if_neg (Nat.not_lt_zero j)]
    have me := List.mem_of_getElem? he
    exact (at_ e me).keep fun o q => (sb1.2 _ (D.iz e me).1).trans q, fun _ _ _ q => q⟩
  have sq1 : ∀ e ∈ Z, e.Seq h1 := fun e me => (sq e me).keep fun o q => (sb1.2 _ (D.lz e me).1).trans q
  refine wpAny_bind (wpAny_forIn_array' _ (fun rest b s' => b.1 = none ∧ ∃ k, rest = (Z.drop k).map (fun e => Value.ref e.it) ∧ b.2.toList = vs.take k ∧ k ≤ Z.length ∧ Drew { s with heap := h1 } Z i k s') _ (fun x rest b s' inv => ?_) (fun b s' inv => ?_) _ _ ⟨rfl, 0, by simp, by simp, Nat.zero_le _, d0⟩)
  · obtain ⟨b1, k, hr, hb, hkl, d⟩ := inv
    have hk : k < Z.length := by
      rcases Nat.lt_or_ge k Z.length with q | q
      · exact q
      · rw [List.drop_eq_nil_of_le q] at hr; cases hr
    rw [List.drop_eq_getElem_cons hk, List.map_cons] at hr
    have hr1 : x = Value.ref Z[k].it := (List.cons.inj hr).1
    have hr2 := (List.cons.inj hr).2
    have he : Z[k]? = some Z[k] := List.getElem?_eq_getElem hk
    obtain ⟨y, hy, hvk⟩ := hvs k _ he
    subst hr1
    refine wpAny_bind (wpAny_holding ?_)
    show wpAny _ _ (Builtin.SmallTypes.nextOf (.ref Z[k].it) >>= fun v => pure (some v)) _ _ _
    refine wpAny_bind (d.next D.nd D.li sq1 he hy fun s'' d2 => wpAny_pure (wpAny_pure ⟨rfl, k + 1, hr2, ?_, hk, d2⟩))
    show (b.snd.push y).toList = vs.take (k + 1)
    rw [Array.toList_push, hb, List.take_succ, hvk]
    rfl
  · obtain ⟨b1, k, hr, hb, hkl, d⟩ := inv
    have hk : Z.length ≤ k := by
      rcases Nat.lt_or_ge k Z.length with q | q
      · rw [List.drop_eq_getElem_cons q, List.map_cons] at hr; cases hr
      · exact q
    rw [b1]
    have hb2 : b.snd.toList = vs := by rw [hb, List.take_of_length_le (by omega)]
    obtain ⟨h2, rfl, hsz, hat, hkeep⟩ := d
    have hsz2 : h2.objs.size = s.heap.objs.size := hsz.trans sb1.1
    dsimp only
    rw [hb2]
    refine wpAny_bind (wpAny_newTuple ?_ (by rw [hv]; exact hl))
    refine wpAny_pure ⟨_, rfl, ?_⟩
    show Q (.ref h2.objs.size) _
    rw [hsz2]
    have up : ∀ c o, h2.get? c = some o → (h2.push { cls := .type "tuple", data := .seq vs.toArray }).get? c = some o := fun c o q => Heap.get?_push_of_some _ q
    have z2 : h2.get? z = some _ := hkeep z _ (fun e me q => (D.iz e me).1 q.symm) hz1
    refine hQ _ (up _ _ z2) (fun e me => ?_) ?_ ?_ fun c o c1 c2 q => up _ _ (hkeep c o c2 ((sb1.2 c c1).trans q))
    · obtain ⟨j, hj, rfl⟩ := List.getElem_of_mem me
      have := hat j _ (List.getElem?_eq_getElem hj)
      rw [if_pos (by omega)] at this
      exact this.keep fun o q => up _ _ q
    · have := Heap.get?_push_size h2 (o := { cls := .type "tuple", data := .seq vs.toArray }) rfl
      rw [hsz2] at this
      exact this
    · rw [Heap.size_push, hsz2]
theorem Drew.stop {Z : List ZI} {i k : Nat} {s' : Shared} (hh : A.handled = none) (d : Drew s Z i k s') (li : ∀ e ∈ Z, ∀ f ∈ Z, e.l ≠ f.it) (sq : ∀ e ∈ Z, e.Seq s.heap) {e : ZI} (he : Z[k]? = some e) (hx : e.xs[i]? = none)
    {Q : Value → Shared → Prop} (hE : ∀ h' c, (∀ c' o, (∀ e ∈ Z, c' ≠ e.it) → s.heap.get? c' = some o → h'.get? c' = some o) → (∃ o, h'.get? c = some o ∧ o.cls = .type "StopIteration") → E (.ref c) { s with heap := h' }) :
    wpAny (model prog w) A (Builtin.SmallTypes.nextOf (.ref e.it)) Q E s' := by
  obtain ⟨h', rfl, hsz, hat, hk⟩ := d
  have me : e ∈ Z := List.mem_of_getElem? he
  have a := hat k e he
  rw [if_neg (Nat.lt_irrefl k)] at a
  exact nx_end (s := { s with heap := h' }) hh a ((sq e me).keep fun o q => hk _ o (fun f mf => li e me f mf) q) hx fun h'' c eb st => hE h'' c (fun c' o hc q => eb c' o (hc e me) (hk c' o hc q)) st
theorem zip_alive_end {z TI TO a : Addr} {b : Bool} {oa : Obj} {Z : List ZI} {i : Nat} {Q : PySem.Fin → Shared → Prop} (hh : A.handled = none) (D : ZAp z TI TO Z) (ne : Z ≠ [])
    (hz : ZRec s.heap z TI TO (rawInt a) (.bool b)) (hTI : TupAt s.heap TI (Z.map fun e => .ref e.it)) (ha : s.heap.get? a = some oa)
    (at_ : ∀ e ∈ Z, e.At s.heap i) (sq : ∀ e ∈ Z, e.Seq s.heap) (hend : ∃ e ∈ Z, e.xs[i]? = none)
    (hE : ∀ h' c, (∀ c' o, c' ≠ z → (∀ e ∈ Z, c' ≠ e.it) → s.heap.get? c' = some o → h'.get? c' = some o) → (∃ o, h'.get? c = some o ∧ o.cls = .type "StopIteration") → E (.ref c) { s with heap := h' }) :
    wpAny (model prog w) A (Builtin.«zip.__next__» ⟨[.ref z], []⟩) Q E s := by
  show wpAny _ _ (field (.ref z) 2 >>= _) _ _ _
  refine wpAny_bind (wpAny_field (x := .bool false) hz rfl rfl ?_)
  show wpAny _ _ (field (.ref z) 3 >>= _) _ _ _
  refine wpAny_bind (wpAny_field (x := .ref TI) hz rfl rfl ?_)
  refine wpAny_bind (wpAny_seqItems hTI rfl ?_)
  have em : ((Z.map fun e => Value.ref e.it).toArray.isEmpty) = false := by
    cases Z with
    | nil => exact (ne rfl).elim
    | cons e Z => rfl
  dsimp only
  rw [em]
  rw [if_neg Bool.false_ne_true]
  refine wpAny_bind ?_
  unfold Builtin.SmallTypes.ownedTupleIsFree
  refine wpAny_bind (wpAny_field (x := rawInt a) hz rfl rfl ?_)
  show wpAny _ _ (loadIfAlive (Int.toNat (a : Int)) >>= _) _ _ _
  rw [Int.toNat_natCast]
  refine wpAny_bind (look_alive ?_)
  rw [ha]
  dsimp only [Option.isNone]
  rw [if_neg Bool.false_ne_true]
  refine wpAny_bind (wpAny_field (x := .bool b) hz rfl rfl ?_)
  refine flag_set hz fun h1 hz1 sb1 => ?_
  rw [if_neg Bool.false_ne_true]
  have d0 : Drew { s with heap := h1 } Z i 0 { s with heap := h1 } := ⟨h1, rfl, rfl, fun j e he => by
    rw [if_neg (Nat.not_lt_zero j)]
    have me := List.mem_of_getElem? he
    exact (at_ e me).keep fun o q => (sb1.2 _ (D.iz e me).1).trans q, fun _ _ _ q => q⟩
  have sq1 : ∀ e ∈ Z, e.Seq h1 := fun e me => (sq e me).keep fun o q => (sb1.2 _ (D.lz e me).1).trans q
  refine wpAny_bind (wpAny_forIn_array' _ (fun rest b s' => b.1 = none ∧ ∃ k, rest = (Z.drop k).map (fun e => Value.ref e.it) ∧ k ≤ Z.length ∧ (∀ (j : Nat) (e : ZI), j < k → Z[j]? = some e → e.xs[i]? ≠ none) ∧ Drew { s with heap := h1 } Z i k s') _ (fun x rest b s' inv => ?_) (fun b s' inv => ?_) _ _ ⟨rfl, 0, by simp, Nat.zero_le _, fun j _ q => absurd q (Nat.not_lt_zero j), d0⟩)
  · obtain ⟨b1, k, hr, hkl, hs, d⟩ := inv
    have hk : k < Z.length := by
      rcases Nat.lt_or_ge k Z.length with q | q
      · exact q
      · rw [List.drop_eq_nil_of_le q] at hr; cases hr
    rw [List.drop_eq_getElem_cons hk, List.map_cons] at hr
    have hr1 : x = Value.ref Z[k].it := (List.cons.inj hr).1
    have hr2 := (List.cons.inj hr).2
    have he : Z[k]? = some Z[k] := List.getElem?_eq_getElem hk
    subst hr1
    refine wpAny_bind (wpAny_holding ?_)
    show wpAny _ _ (Builtin.SmallTypes.nextOf (.ref Z[k].it) >>= fun v => pure (some v)) _ _ _
    cases hy : Z[k].xs[i]? with
    | some y =>
      refine wpAny_bind (d.next D.nd D.li sq1 he hy fun s'' d2 => wpAny_pure (wpAny_pure ⟨rfl, k + 1, hr2, hk, fun j e hj hje => ?_, d2⟩))
      rcases Nat.lt_succ_iff_lt_or_eq.mp hj with q | q
      · exact hs j e q hje
      · subst q
        rw [he] at hje
        cases hje
        rw [hy]
        exact fun q => nomatch q
    | none => exact wpAny_bind (d.stop hh D.li sq1 he hy fun h' c keep st => hE h' c (fun c' o c1 c2 q => keep c' o c2 ((sb1.2 c' c1).trans q)) st)
  · obtain ⟨b1, k, hr, hkl, hs, d⟩ := inv
    have hk : Z.length ≤ k := by
      rcases Nat.lt_or_ge k Z.length with q | q
      · rw [List.drop_eq_getElem_cons q, List.map_cons] at hr; cases hr
      · exact q
    obtain ⟨e, me, hn⟩ := hend
    obtain ⟨j, hj, rfl⟩ := List.getElem_of_mem me
    exact (hs j _ (by omega) (List.getElem?_eq_getElem hj) hn).elim
/-! the other way: the tuple for reuse is free -/
theorem upd_tup {T : Addr} {ws : List Value} {k : Nat} {x : Value} {Q : Unit → Shared → Prop} (hT : TupAt s.heap T ws) (hl : ws.length ≤ sizeLine) (h : ∀ h', TupAt h' T (ws.set k x) → Heap.SameBut T s.heap h' → Q () { s with heap := h' }) :
    wpAny (model prog w) A (updateSeq T (·.setIfInBounds k x)) Q E s := by
  refine wpAny_updateSeq hT rfl (h _ ?_ (Heap.SameBut.update ..)) (by rw [List.size_toArray]; exact hl) (by simp; omega)
  unfold TupAt
  rw [Heap.get?_update_self _ hT rfl]
  simp [Obj.mapSeq]
def DrewT (s : Shared) (Z : List ZI) (i k : Nat) (TO : Addr) (ws : List Value) (s' : Shared) : Prop := ∃ h', s' = { s with heap := h' } ∧ h'.objs.size = s.heap.objs.size ∧ TupAt h' TO ws ∧
  (∀ (j : Nat) (e : ZI), Z[j]? = some e → e.At h' (if j < k then i + 1 else i)) ∧ ∀ c o, c ≠ TO → (∀ e ∈ Z, c ≠ e.it) → s.heap.get? c = some o → h'.get? c = some o
theorem DrewT.next {Z : List ZI} {i k : Nat} {s' : Shared} {TO : Addr} {ws : List Value} (d : DrewT s Z i k TO ws s') (nd : (Z.map (·.it)).Nodup) (li : ∀ e ∈ Z, ∀ f ∈ Z, e.l ≠ f.it) (lt : ∀ e ∈ Z, e.l ≠ TO) (it : ∀ e ∈ Z, e.it ≠ TO) (sq : ∀ e ∈ Z, e.Seq s.heap) {e : ZI} (he : Z[k]? = some e) {x : Value} (hx : e.xs[i]? = some x)
    {Q : Value → Shared → Prop} (hQ : ∀ s'', DrewT s Z i (k + 1) TO ws s'' → Q x s'') : wpAny (model prog w) A (Builtin.SmallTypes.nextOf (.ref e.it)) Q E s' := by
  obtain ⟨h', rfl, hsz, hT, hat, hk⟩ := d
  have me : e ∈ Z := List.mem_of_getElem? he
  have a := hat k e he
  rw [if_neg (Nat.lt_irrefl k)] at a
  refine nx_item (s := { s with heap := h' }) a ((sq e me).keep fun o q => hk _ o (lt e me) (fun f mf => li e me f mf) q) hx fun h'' a2 sb => hQ _ ⟨h'', rfl, sb.1.trans hsz, (sb.2 TO (it e me).symm).trans hT, fun j f hf => ?_, fun c o c1 hc q => ?_⟩
  · by_cases hj : j = k
    · subst hj
      rw [he] at hf
      cases hf
      rw [if_pos (Nat.lt_succ_self j)]
      exact a2
    · have b := hat j f hf
      have ne : f.it ≠ e.it := fun q => hj (nodup_at nd (x := e.it) (by rw [List.getElem?_map, hf, Option.map_some, q]) (by rw [List.getElem?_map, he]; rfl))
      have e1 : (if j < k + 1 then i + 1 else i) = (if j < k then i + 1 else i) := by
        by_cases h1 : j < k
        · rw [if_pos h1, if_pos (by omega)]
        · rw [if_neg h1, if_neg (by omega)]
      rw [e1]
      exact b.keep fun o q => (sb.2 _ ne).trans q
  · exact (sb.2 c (hc e me)).trans (hk c o c1 hc q)
theorem DrewT.put {Z : List ZI} {i k j : Nat} {s' : Shared} {TO : Addr} {ws : List Value} {x : Value} (d : DrewT s Z i k TO ws s') (it : ∀ e ∈ Z, e.it ≠ TO) (hl : ws.length ≤ sizeLine) {Q : Unit → Shared → Prop} (hQ : ∀ s'', DrewT s Z i k TO (ws.set j x) s'' → Q () s'') :
    wpAny (model prog w) A (updateSeq TO (·.setIfInBounds j x)) Q E s' := by
  obtain ⟨h', rfl, hsz, hT, hat, hk⟩ := d
  refine upd_tup (s := { s with heap := h' }) hT hl fun h'' hT2 sb => hQ _ ⟨h'', rfl, sb.1.trans hsz, hT2, fun m f hf => (hat m f hf).keep fun o q => (sb.2 _ (it f (List.mem_of_getElem? hf))).trans q, fun c o c1 hc q => (sb.2 c c1).trans (hk c o c1 hc q)⟩
theorem DrewT.stop {Z : List ZI} {i k : Nat} {s' : Shared} {TO : Addr} {ws : List Value} (hh : A.handled = none) (d : DrewT s Z i k TO ws s') (li : ∀ e ∈ Z, ∀ f ∈ Z, e.l ≠ f.it) (lt : ∀ e ∈ Z, e.l ≠ TO) (sq : ∀ e ∈ Z, e.Seq s.heap) {e : ZI} (he : Z[k]? = some e) (hx : e.xs[i]? = none)
    {Q : Value → Shared → Prop} (hE : ∀ h' c, (∀ c' o, c' ≠ TO → (∀ e ∈ Z, c' ≠ e.it) → s.heap.get? c' = some o → h'.get? c' = some o) → (∃ o, h'.get? c = some o ∧ o.cls = .type "StopIteration") → E (.ref c) { s with heap := h' }) :
    wpAny (model prog w) A (Builtin.SmallTypes.nextOf (.ref e.it)) Q E s' := by
  obtain ⟨h', rfl, hsz, hT, hat, hk⟩ := d
  have me : e ∈ Z := List.mem_of_getElem? he
  have a := hat k e he
  rw [if_neg (Nat.lt_irrefl k)] at a
  exact nx_end (s := { s with heap := h' }) hh a ((sq e me).keep fun o q => hk _ o (lt e me) (fun f mf => li e me f mf) q) hx fun h'' c eb st => hE h'' c (fun c' o c1 hc q => eb c' o (hc e me) (hk c' o c1 hc q)) st
/-- the mark says: free -/
def FreeM (h : Heap) (f0 : Value) : Prop := f0 = .none ∨ ∃ a : Addr, f0 = rawInt a ∧ h.get? a = none
theorem free_ok {z TI TO : Addr} {f0 f1 : Value} {Q : Bool → Shared → Prop} (hz : ZRec s.heap z TI TO f0 f1) (hf : FreeM s.heap f0) (h : Q true s) : wpAny (model prog w) A (Builtin.SmallTypes.ownedTupleIsFree (.ref z)) Q E s := by
  unfold Builtin.SmallTypes.ownedTupleIsFree
  refine wpAny_bind (wpAny_field (x := f0) hz rfl rfl ?_)
  rcases hf with rfl | ⟨a, rfl, ha⟩
  · exact wpAny_pure h
  · show wpAny _ _ (loadIfAlive (Int.toNat (a : Int)) >>= _) _ _ _
    rw [Int.toNat_natCast]
    refine wpAny_bind (look_alive ?_)
    rw [ha]
    dsimp only [Option.isNone]
    rw [if_pos rfl]
    exact wpAny_pure h
theorem zip_free {z TI TO : Addr} {f0 f1 : Value} {Z : List ZI} {i : Nat} {vs ws : List Value} {Q : Value → Shared → Prop} (D : ZAp z TI TO Z) (ne : Z ≠ [])
    (hz : ZRec s.heap z TI TO f0 f1) (hf : FreeM s.heap f0) (hTI : TupAt s.heap TI (Z.map fun e => .ref e.it)) (hTO : TupAt s.heap TO ws) (hw : ws.length = Z.length)
    (at_ : ∀ e ∈ Z, e.At s.heap i) (sq : ∀ e ∈ Z, e.Seq s.heap) (hv : vs.length = Z.length) (hvs : ∀ (j : Nat) (e : ZI), Z[j]? = some e → ∃ x, e.xs[i]? = some x ∧ vs[j]? = some x) (hl : Z.length ≤ sizeLine)
    (hQ : ∀ h', ZRec h' z TI TO (rawInt s.heap.objs.size) (.bool false) → TupAt h' TO vs → (∀ e ∈ Z, e.At h' (i + 1)) → TupAt h' s.heap.objs.size vs → h'.objs.size = s.heap.objs.size + 1 →
      (∀ c o, c ≠ z → c ≠ TO → (∀ e ∈ Z, c ≠ e.it) → s.heap.get? c = some o → h'.get? c = some o) → Q (.ref s.heap.objs.size) { s with heap := h' }) :
    wpAny (model prog w) A (Builtin.«zip.__next__» ⟨[.ref z], []⟩) (fun fin s' => ∃ v, fin = .done (.ret v) ∧ Q v s') E s := by
  show wpAny _ _ (field (.ref z) 2 >>= _) _ _ _
  refine wpAny_bind (wpAny_field (x := .bool false) hz rfl rfl ?_)
  show wpAny _ _ (field (.ref z) 3 >>= _) _ _ _
  refine wpAny_bind (wpAny_field (x := .ref TI) hz rfl rfl ?_)
  refine wpAny_bind (wpAny_seqItems hTI rfl ?_)
  have em : ((Z.map fun e => Value.ref e.it).toArray.isEmpty) = false := by
    cases Z with
    | nil => exact (ne rfl).elim
    | cons e Z => rfl
  dsimp only
  rw [em]
  rw [if_neg Bool.false_ne_true]
  refine wpAny_bind (free_ok hz hf ?_)
  rw [if_pos rfl]
  refine wpAny_bind (wpAny_rule ?_)
  refine wpAny_bind (wpAny_field (x := .ref TO) hz rfl rfl ?_)
  refine wpAny_bind (wpAny_setField_rec hz (by simp) fun h1 hz1 sb1 => ?_)
  have d0 : DrewT { s with heap := h1 } Z i 0 TO ws { s with heap := h1 } := ⟨h1, rfl, rfl, (sb1.2 TO D.TOz).trans hTO, fun j e he => by
    rw [if_neg (Nat.not_lt_zero j)]
    have me := List.mem_of_getElem? he
    exact (at_ e me).keep fun o q => (sb1.2 _ (D.iz e me).1).trans q, fun _ _ _ _ q => q⟩
  have sq1 : ∀ e ∈ Z, e.Seq h1 := fun e me => (sq e me).keep fun o q => (sb1.2 _ (D.lz e me).1).trans q
  have ito : ∀ e ∈ Z, e.it ≠ TO := fun e me => (D.iz e me).2.2
  have lto : ∀ e ∈ Z, e.l ≠ TO := fun e me => (D.lz e me).2.2
  refine wpAny_bind (wpAny_forIn_list _ (fun rest b s' => b.1 = none ∧ ∃ k ws', rest = ((Z.map fun e => Value.ref e.it).zipIdx).drop k ∧ k ≤ Z.length ∧ ws'.length = Z.length ∧ (∀ j, j < k → ws'[j]? = vs[j]?) ∧ DrewT { s with heap := h1 } Z i k TO ws' s') _ (fun x rest b s' inv => ?_) (fun b s' inv => ?_) _ _ ⟨rfl, 0, ws, by simp, Nat.zero_le _, hw, fun j q => absurd q (Nat.not_lt_zero j), d0⟩)
  · obtain ⟨b1, k, ws', hr, hkl, hwl, hws, d⟩ := inv
    have hk : k < Z.length := by
      rcases Nat.lt_or_ge k Z.length with q | q
      · exact q
      · rw [List.drop_eq_nil_of_le (by simpa using q)] at hr; cases hr
    have hk2 : k < ((Z.map fun e => Value.ref e.it).zipIdx).length := by simpa using hk
    rw [List.drop_eq_getElem_cons hk2] at hr
    have hr1 : x = (Value.ref Z[k].it, k) := by rw [(List.cons.inj hr).1]; simp
    have hr2 := (List.cons.inj hr).2
    have he : Z[k]? = some Z[k] := List.getElem?_eq_getElem hk
    obtain ⟨y, hy, hvk⟩ := hvs k _ he
    subst hr1
    refine wpAny_bind (wpAny_onRaise ?_)
    show wpAny _ _ (Builtin.SmallTypes.nextOf (.ref Z[k].it) >>= fun v => pure (some v)) _ _ _
    refine wpAny_bind (d.next D.nd D.li lto ito sq1 he hy fun s'' d2 => wpAny_pure ?_)
    obtain ⟨h2, rfl, hsz2, hT2, _, _⟩ := id d2
    dsimp only
    refine wpAny_bind (wpAny_seqItems hT2 rfl ?_)
    dsimp only
    refine wpAny_bind (d2.put ito (by rw [hwl]; exact hl) fun s3 d3 => wpAny_bind (wpAny_letGo (wpAny_pure ⟨rfl, k + 1, ws'.set k y, hr2, hk, by rw [List.length_set]; exact hwl, fun j hj => ?_, d3⟩)))
    rcases Nat.lt_succ_iff_lt_or_eq.mp hj with q | q
    · rw [List.getElem?_set_ne (by omega)]
      exact hws j q
    · subst q
      rw [List.getElem?_set_self (by omega), hvk]
  · obtain ⟨b1, k, ws', hr, hkl, hwl, hws, d⟩ := inv
    have hk : Z.length ≤ k := by
      rcases Nat.lt_or_ge k Z.length with q | q
      · have hk2 : k < ((Z.map fun e => Value.ref e.it).zipIdx).length := by simpa using q
        rw [List.drop_eq_getElem_cons hk2] at hr; cases hr
      · exact q
    have hwv : ws' = vs := by
      refine List.ext_getElem? fun j => ?_
      rcases Nat.lt_or_ge j k with q | q
      · exact hws j q
      · rw [List.getElem?_eq_none (by omega), List.getElem?_eq_none (by omega)]
    subst hwv
    obtain ⟨h2, rfl, hsz, hT, hat, hkeep⟩ := d
    have hsz2 : h2.objs.size = s.heap.objs.size := hsz.trans sb1.1
    rw [b1]
    dsimp only
    refine wpAny_bind (wpAny_seqItems hT rfl ?_)
    dsimp only
    refine wpAny_bind (wpAny_newTuple ?_ (by rw [hwl]; exact hl))
    have z2 : h2.get? z = some _ := hkeep z _ D.TOz.symm (fun e me q => (D.iz e me).1 q.symm) hz1
    have zlt : z < h2.objs.size := Heap.lt_size z2
    have z3 : (h2.push { cls := .type "tuple", data := .seq ws'.toArray.toList.toArray }).get? z = some _ := Heap.get?_push_of_some _ z2
    show wpAny _ _ (Builtin.SmallTypes.ownedTupleHandOut (.ref z) (.ref h2.objs.size) >>= _) _ _ _
    refine wpAny_bind ?_
    unfold Builtin.SmallTypes.ownedTupleHandOut
    refine wpAny_bind (wpAny_setField_rec z3 (by simp) fun h4 z4 sb4 => ?_)
    refine wpAny_setField_rec z4 (by simp) fun h5 z5 sb5 => ?_
    refine wpAny_pure ⟨_, rfl, ?_⟩
    have up : ∀ c o, c ≠ z → h2.get? c = some o → h5.get? c = some o := fun c o c1 q => (sb5.2 c c1).trans ((sb4.2 c c1).trans (Heap.get?_push_of_some _ q))
    have sz5 : h5.objs.size = h2.objs.size + 1 := by rw [sb5.1, sb4.1, Heap.size_push]
    have n5 : TupAt h5 h2.objs.size ws' := by
      have q := Heap.get?_push_size h2 (o := { cls := .type "tuple", data := .seq ws'.toArray.toList.toArray }) rfl
      have q2 := (sb5.2 h2.objs.size (Nat.ne_of_gt zlt)).trans ((sb4.2 h2.objs.size (Nat.ne_of_gt zlt)).trans q)
      exact q2
    show Q (.ref h2.objs.size) _
    rw [hsz2] at n5 sz5 z5 ⊢
    refine hQ h5 z5 (up _ _ D.TOz hT) (fun e me => ?_) n5 sz5 fun c o c1 c2 c3 q => up c o c1 (hkeep c o c2 c3 ((sb1.2 c c1).trans q))
    obtain ⟨j, hj, rfl⟩ := List.getElem_of_mem me
    have := hat j _ (List.getElem?_eq_getElem hj)
    rw [if_pos (by omega)] at this
    exact this.keep fun o q => up _ _ (D.iz _ me).1 q
theorem zip_free_end {z TI TO : Addr} {f0 f1 : Value} {Z : List ZI} {i : Nat} {ws : List Value} {Q : PySem.Fin → Shared → Prop} (hh : A.handled = none) (D : ZAp z TI TO Z) (ne : Z ≠ [])
    (hz : ZRec s.heap z TI TO f0 f1) (hf : FreeM s.heap f0) (hTI : TupAt s.heap TI (Z.map fun e => .ref e.it)) (hTO : TupAt s.heap TO ws) (hw : ws.length = Z.length)
    (at_ : ∀ e ∈ Z, e.At s.heap i) (sq : ∀ e ∈ Z, e.Seq s.heap) (hl : Z.length ≤ sizeLine) (hend : ∃ e ∈ Z, e.xs[i]? = none)
    (hE : ∀ h' c, (∀ c' o, c' ≠ z → c' ≠ TO → (∀ e ∈ Z, c' ≠ e.it) → s.heap.get? c' = some o → h'.get? c' = some o) → (∃ o, h'.get? c = some o ∧ o.cls = .type "StopIteration") → E (.ref c) { s with heap := h' }) :
    wpAny (model prog w) A (Builtin.«zip.__next__» ⟨[.ref z], []⟩) Q E s := by
  show wpAny _ _ (field (.ref z) 2 >>= _) _ _ _
  refine wpAny_bind (wpAny_field (x := .bool false) hz rfl rfl ?_)
  show wpAny _ _ (field (.ref z) 3 >>= _) _ _ _
  refine wpAny_bind (wpAny_field (x := .ref TI) hz rfl rfl ?_)
  refine wpAny_bind (wpAny_seqItems hTI rfl ?_)
  have em : ((Z.map fun e => Value.ref e.it).toArray.isEmpty) = false := by
    cases Z with
    | nil => exact (ne rfl).elim
    | cons e Z => rfl
  dsimp only
  rw [em]
  rw [if_neg Bool.false_ne_true]
  refine wpAny_bind (free_ok hz hf ?_)
  rw [if_pos rfl]
  refine wpAny_bind (wpAny_rule ?_)
  refine wpAny_bind (wpAny_field (x := .ref TO) hz rfl rfl ?_)
  refine wpAny_bind (wpAny_setField_rec hz (by simp) fun h1 hz1 sb1 => ?_)
  have d0 : DrewT { s with heap := h1 } Z i 0 TO ws { s with heap := h1 } := ⟨h1, rfl, rfl, (sb1.2 TO D.TOz).trans hTO, fun j e he => by
    rw [if_neg (Nat.not_lt_zero j)]
    have me := List.mem_of_getElem? he
    exact (at_ e me).keep fun o q => (sb1.2 _ (D.iz e me).1).trans q, fun _ _ _ _ q => q⟩
  have sq1 : ∀ e ∈ Z, e.Seq h1 := fun e me => (sq e me).keep fun o q => (sb1.2 _ (D.lz e me).1).trans q
  have ito : ∀ e ∈ Z, e.it ≠ TO := fun e me => (D.iz e me).2.2
  have lto : ∀ e ∈ Z, e.l ≠ TO := fun e me => (D.lz e me).2.2
  refine wpAny_bind (wpAny_forIn_list _ (fun rest b s' => b.1 = none ∧ ∃ k ws', rest = ((Z.map fun e => Value.ref e.it).zipIdx).drop k ∧ k ≤ Z.length ∧ ws'.length = Z.length ∧ (∀ (j : Nat) (e : ZI), j < k → Z[j]? = some e → e.xs[i]? ≠ none) ∧ DrewT { s with heap := h1 } Z i k TO ws' s') _ (fun x rest b s' inv => ?_) (fun b s' inv => ?_) _ _ ⟨rfl, 0, ws, by simp, Nat.zero_le _, hw, fun j _ q => absurd q (Nat.not_lt_zero j), d0⟩)
  · obtain ⟨b1, k, ws', hr, hkl, hwl, hs, d⟩ := inv
    have hk : k < Z.length := by
      rcases Nat.lt_or_ge k Z.length with q | q
      · exact q
      · rw [List.drop_eq_nil_of_le (by simpa using q)] at hr; cases hr
    have hk2 : k < ((Z.map fun e => Value.ref e.it).zipIdx).length := by simpa using hk
    rw [List.drop_eq_getElem_cons hk2] at hr
    have hr1 : x = (Value.ref Z[k].it, k) := by rw [(List.cons.inj hr).1]; simp
    have hr2 := (List.cons.inj hr).2
    have he : Z[k]? = some Z[k] := List.getElem?_eq_getElem hk
    subst hr1
    refine wpAny_bind (wpAny_onRaise ?_)
    show wpAny _ _ (Builtin.SmallTypes.nextOf (.ref Z[k].it) >>= fun v => pure (some v)) _ _ _
    cases hy : Z[k].xs[i]? with
    | some y =>
      refine wpAny_bind (d.next D.nd D.li lto ito sq1 he hy fun s'' d2 => wpAny_pure ?_)
      obtain ⟨h2, rfl, hsz2, hT2, _, _⟩ := id d2
      dsimp only
      refine wpAny_bind (wpAny_seqItems hT2 rfl ?_)
      dsimp only
      refine wpAny_bind (d2.put ito (by rw [hwl]; exact hl) fun s3 d3 => wpAny_bind (wpAny_letGo (wpAny_pure ⟨rfl, k + 1, ws'.set k y, hr2, hk, by rw [List.length_set]; exact hwl, fun j e hj hje => ?_, d3⟩)))
      rcases Nat.lt_succ_iff_lt_or_eq.mp hj with q | q
      · exact hs j e q hje
      · subst q
        rw [he] at hje
        cases hje
        rw [hy]
        exact fun q => nomatch q
    | none =>
      refine wpAny_bind (d.stop hh D.li lto sq1 he hy fun h' c keep st => ?_)
      obtain ⟨oc, ho, hcl⟩ := st
      have z2 : h'.get? z = some _ := keep z _ D.TOz.symm (fun e me q => (D.iz e me).1 q.symm) hz1
      have cz : c ≠ z := fun q => by
        subst q
        rw [z2] at ho
        cases ho
        simp at hcl
      refine wpAny_setField_rec (s := { s with heap := h' }) z2 (by simp) fun h6 z6 sb6 => hE h6 c (fun c' o c1 c2 c3 q => (sb6.2 c' c1).trans (keep c' o c2 c3 ((sb1.2 c' c1).trans q))) ⟨oc, (sb6.2 c cz).trans ho, hcl⟩
  · obtain ⟨b1, k, ws', hr, hkl, hwl, hs, d⟩ := inv
    have hk : Z.length ≤ k := by
      rcases Nat.lt_or_ge k Z.length with q | q
      · have hk2 : k < ((Z.map fun e => Value.ref e.it).zipIdx).length := by simpa using q
        rw [List.drop_eq_getElem_cons hk2] at hr; cases hr
      · exact q
    obtain ⟨e, me, hn⟩ := hend
    obtain ⟨j, hj, rfl⟩ := List.getElem_of_mem me
    exact (hs j _ (by omega) (List.getElem?_eq_getElem hj) hn).elim
/-! both ways in one -/
/-- the state of a zip ahead of its i-th turn -/
def ZTn (z TI TO : Addr) (Z : List ZI) (i : Nat) (h : Heap) : Prop := ∃ (f0 : Value) (b : Bool) (ws : List Value), ZRec h z TI TO f0 (.bool b) ∧ (f0 = .none ∨ ∃ a : Addr, f0 = rawInt a) ∧ TupAt h TI (Z.map fun e => .ref e.it) ∧ TupAt h TO ws ∧ ws.length = Z.length ∧ ∀ e ∈ Z, e.At h i
theorem zip_item {z TI TO : Addr} {Z : List ZI} {i : Nat} {vs : List Value} {Q : Option Value → Shared → Prop} (D : ZAp z TI TO Z) (ne : Z ≠ []) (tn : ZTn z TI TO Z i s.heap)
    (sq : ∀ e ∈ Z, e.Seq s.heap) (hv : vs.length = Z.length) (hvs : ∀ (j : Nat) (e : ZI), Z[j]? = some e → ∃ x, e.xs[i]? = some x ∧ vs[j]? = some x) (hl : Z.length ≤ sizeLine)
    (hQ : ∀ h', ZTn z TI TO Z (i + 1) h' → TupAt h' s.heap.objs.size vs → h'.objs.size = s.heap.objs.size + 1 →
      (∀ c o, c ≠ z → c ≠ TO → (∀ e ∈ Z, c ≠ e.it) → s.heap.get? c = some o → h'.get? c = some o) → Q (some (.ref s.heap.objs.size)) { s with heap := h' }) :
    wpAny (model prog w) A (pyNext (.ref z)) Q E s := by
  obtain ⟨f0, b, ws, hz, hf, hTI, hTO, hw, hat⟩ := tn
  have hT : s.TypeIs (.ref z) "zip" := ⟨_, hz, rfl⟩
  have TIk : ∀ {h' : Heap}, (∀ c o, c ≠ z → c ≠ TO → (∀ e ∈ Z, c ≠ e.it) → s.heap.get? c = some o → h'.get? c = some o) → TupAt h' TI (Z.map fun e => .ref e.it) := fun k => k TI _ D.TIz D.TIO (fun e me q => (D.iz e me).2.1 q.symm) hTI
  unfold pyNext
  refine wpAny_bind (wpAny_attempt (wpAny_callSpecial?_slot (name := Str.ofString "__next__") hT F.slot_zip_next (wpAny_call_entry F.slot_zip_next hT F.entry_zip_next ?_ (F.args_zip_next_1 _))))
  rcases hf with rfl | ⟨a, rfl⟩
  · exact zip_free D ne hz (.inl rfl) hTI hTO hw hat sq hv hvs hl fun h' a1 a2 a3 a4 a5 a6 => wpAny_pure (hQ h' ⟨_, _, vs, a1, .inr ⟨_, rfl⟩, TIk a6, a2, hv, a3⟩ a4 a5 a6)
  · cases ha : s.heap.get? a with
    | none => exact zip_free D ne hz (.inr ⟨a, rfl, ha⟩) hTI hTO hw hat sq hv hvs hl fun h' a1 a2 a3 a4 a5 a6 => wpAny_pure (hQ h' ⟨_, _, vs, a1, .inr ⟨_, rfl⟩, TIk a6, a2, hv, a3⟩ a4 a5 a6)
    | some oa => exact zip_alive D ne hz hTI ha hat sq hv hvs hl fun h' a1 a2 a3 a4 a5 => wpAny_pure (hQ h' ⟨_, _, ws, a1, .inr ⟨_, rfl⟩, TIk (fun c o c1 _ c3 q => a5 c o c1 c3 q), a5 TO _ D.TOz (fun e me q => (D.iz e me).2.2 q.symm) hTO, hw, a2⟩ a3 a4 (fun c o c1 _ c3 q => a5 c o c1 c3 q))
theorem zip_stop {z TI TO : Addr} {Z : List ZI} {i : Nat} {Q : Option Value → Shared → Prop} (hh : A.handled = none) (D : ZAp z TI TO Z) (ne : Z ≠ []) (tn : ZTn z TI TO Z i s.heap)
    (sq : ∀ e ∈ Z, e.Seq s.heap) (hl : Z.length ≤ sizeLine) (hend : ∃ e ∈ Z, e.xs[i]? = none)
    (hQ : ∀ h', (∀ c o, c ≠ z → c ≠ TO → (∀ e ∈ Z, c ≠ e.it) → s.heap.get? c = some o → h'.get? c = some o) → Q none { s with heap := h' }) :
    wpAny (model prog w) A (pyNext (.ref z)) Q E s := by
  obtain ⟨f0, b, ws, hz, hf, hTI, hTO, hw, hat⟩ := tn
  have hT : s.TypeIs (.ref z) "zip" := ⟨_, hz, rfl⟩
  unfold pyNext
  have fin : ∀ (h' : Heap) (c : Addr), (∀ c' o, c' ≠ z → c' ≠ TO → (∀ e ∈ Z, c' ≠ e.it) → s.heap.get? c' = some o → h'.get? c' = some o) → (∃ o, h'.get? c = some o ∧ o.cls = .type "StopIteration") →
      wpAny (model prog w) A (do if ← isInstance (.ref c) (.type "StopIteration") then pure none else throw (.ref c)) Q E { s with heap := h' } := fun h' c k st => by
    refine wpAny_bind (wpAny_isInstance (T := "StopIteration") (b := true) st isSubtype_stop ?_)
    exact wpAny_pure (hQ h' k)
  refine wpAny_bind (wpAny_attempt (wpAny_callSpecial?_slot (name := Str.ofString "__next__") hT F.slot_zip_next (wpAny_call_entry F.slot_zip_next hT F.entry_zip_next ?_ (F.args_zip_next_1 _))))
  rcases hf with rfl | ⟨a, rfl⟩
  · exact zip_free_end hh D ne hz (.inl rfl) hTI hTO hw hat sq hl hend fun h' c k st => fin h' c k st
  · cases ha : s.heap.get? a with
    | none => exact zip_free_end hh D ne hz (.inr ⟨a, rfl, ha⟩) hTI hTO hw hat sq hl hend fun h' c k st => fin h' c k st
    | some oa => exact zip_alive_end hh D ne hz hTI ha hat sq hend fun h' c k st => fin h' c (fun c' o c1 _ c3 q => k c' o c1 c3 q) st
end
end DL

namespace DL
open PySem PySem.Spec PyProof.Rows L2

/-! ### zip of four tuples is made -/
theorem tc_zip4 (a b c d : Value) : checkTypeCall "zip" ⟨[a, b, c, d], []⟩ = pure () := by kernel_rfl
theorem nc_zip4 (a b c d : Value) : checkBuiltinCall "zip.__new__" ⟨[.type "zip", a, b, c, d], []⟩ = pure () := by kernel_rfl
theorem ao_zip4 (o a b c d : Value) : argsOk "object.__init__" ⟨[o, a, b, c, d], []⟩ := by
  unfold argsOk
  rw [signature?_of (id := "object.__init__") (n := ['_', '_', 't', 'i', 'n', 'i', '_', '_']) (o := ['t', 'c', 'e', 'j', 'b', 'o']) (by kernel_rfl) PySem.F.owner_object]
  kernel_rfl
abbrev tit (l : Addr) : Obj := { cls := .type "tuple_iterator", data := .fields #[.ref l, .int 0 0] }
abbrev y1 (h : Heap) (a : Addr) : Heap := h.push (tit a)
abbrev y2 (h : Heap) (a b : Addr) : Heap := (y1 h a).push (tit b)
abbrev y3 (h : Heap) (a b c : Addr) : Heap := (y2 h a b).push (tit c)
abbrev y4 (h : Heap) (a b c d : Addr) : Heap := (y3 h a b c).push (tit d)
abbrev y5 (h : Heap) (a b c d : Addr) : Heap := (y4 h a b c d).push { cls := .type "tuple", data := .seq #[.ref h.objs.size, .ref (y1 h a).objs.size, .ref (y2 h a b).objs.size, .ref (y3 h a b c).objs.size] }
abbrev y6 (h : Heap) (a b c d : Addr) : Heap := (y5 h a b c d).push { cls := .type "tuple", data := .seq #[.none, .none, .none, .none] }
abbrev y7 (h : Heap) (a b c d : Addr) : Heap := (y6 h a b c d).push { cls := .type "zip", data := .fields #[.none, .bool false, .bool false, .ref (y4 h a b c d).objs.size, .ref (y5 h a b c d).objs.size] }
theorem meets_zip4 (a b c d : Addr) (xa xb xc xd : Array Value) :
    Meets (Builtin.«zip.__new__» ⟨[.type "zip", .ref a, .ref b, .ref c, .ref d], []⟩) (fun _ R s => s.heap.IsTuple a xa ∧ s.heap.IsTuple b xb ∧ s.heap.IsTuple c xc ∧ s.heap.IsTuple d xd ∧
      R (.ok (.ret (.ref (y6 s.heap a b c d).objs.size))) { s with heap := y7 s.heap a b c d }) :=
  .of_wp fun prog w A R s h => by
    obtain ⟨hp, g, dr, tk, os⟩ := s
    obtain ⟨ha, hb, hc, hd, h⟩ := h
    have hsub := sub_zip
    have La : Heap.IsTuple (Shared.heap ⟨hp, g, dr, tk, os⟩) a xa := ha
    have Lb : Heap.IsTuple (Shared.heap ⟨y1 hp a, g, dr, tk, os⟩) b xb := Heap.IsTuple.push hb _
    have Lc : Heap.IsTuple (Shared.heap ⟨y2 hp a b, g, dr, tk, os⟩) c xc := Heap.IsTuple.push (Heap.IsTuple.push hc _) _
    have Ld : Heap.IsTuple (Shared.heap ⟨y3 hp a b c, g, dr, tk, os⟩) d xd := Heap.IsTuple.push (Heap.IsTuple.push (Heap.IsTuple.push hd _) _) _
    wp_walk using wpAny_pyIter_tuple La, wpAny_pyIter_tuple Lb, wpAny_pyIter_tuple Lc, wpAny_pyIter_tuple Ld
    exact ⟨_, rfl, h⟩

section
variable {prog : Program} {w : World} {A : Around} {E : Value → Shared → Prop} {s : Shared}
/-- the four as they are walked -/
def zi4 (n : Nat) (a b c d : Addr) (xa xb xc xd : Array Value) : List ZI := [⟨n, a, xa, true⟩, ⟨n + 1, b, xb, true⟩, ⟨n + 2, c, xc, true⟩, ⟨n + 3, d, xd, true⟩]
theorem ne_of {a b : Nat} (h : a ≠ b) : @Ne Addr a b := h
theorem zi4_apart {n : Nat} {a b c d : Nat} {xa xb xc xd : Array Value} (ha : a < n) (hb : b < n) (hc : c < n) (hd : d < n) : ZAp (n + 6) (n + 4) (n + 5) (zi4 n a b c d xa xb xc xd) where
  nd := by
    show [n, n + 1, n + 2, n + 3].Nodup
    simp
  TIz := ne_of (by omega)
  TOz := ne_of (by omega)
  TIO := ne_of (by omega)
  iz := fun e me => by
    unfold zi4 at me
    simp only [List.mem_cons, List.not_mem_nil, or_false] at me
    rcases me with rfl | rfl | rfl | rfl <;> exact ⟨ne_of (by dsimp only; omega), ne_of (by dsimp only; omega), ne_of (by dsimp only; omega)⟩
  lz := fun e me => by
    unfold zi4 at me
    simp only [List.mem_cons, List.not_mem_nil, or_false] at me
    rcases me with rfl | rfl | rfl | rfl <;> exact ⟨ne_of (by dsimp only; omega), ne_of (by dsimp only; omega), ne_of (by dsimp only; omega)⟩
  li := fun e me f mf => by
    unfold zi4 at me mf
    simp only [List.mem_cons, List.not_mem_nil, or_false] at me mf
    rcases me with rfl | rfl | rfl | rfl <;> rcases mf with rfl | rfl | rfl | rfl <;> exact ne_of (by dsimp only; omega)
theorem call_zip4 {a b c d : Addr} {xa xb xc xd : Array Value} {Q : Value → Shared → Prop} (ha : s.heap.IsTuple a xa) (hb : s.heap.IsTuple b xb) (hc : s.heap.IsTuple c xc) (hd : s.heap.IsTuple d xd)
    (h : ∀ h', ZTn (s.heap.objs.size + 6) (s.heap.objs.size + 4) (s.heap.objs.size + 5) (zi4 s.heap.objs.size a b c d xa xb xc xd) 0 h' → h'.objs.size = s.heap.objs.size + 7 →
      (∀ c o, s.heap.get? c = some o → h'.get? c = some o) → Q (.ref (s.heap.objs.size + 6)) { s with heap := h' }) :
    wpAny (model prog w) A (call (.type "zip") [.ref a, .ref b, .ref c, .ref d]) Q E s := by
  refine callType_new F.called_zip (by decide) (tc_zip4 _ _ _ _) (nc_zip4 _ _ _ _) (fun obj => ao_zip4 obj _ _ _ _) F.entry_zip_new (meets_zip4 a b c d xa xb xc xd) ⟨ha, hb, hc, hd, ?_⟩
  have z1 : (y1 s.heap a).objs.size = s.heap.objs.size + 1 := Heap.size_push ..
  have z2 : (y2 s.heap a b).objs.size = s.heap.objs.size + 2 := by rw [Heap.size_push, z1]
  have z3 : (y3 s.heap a b c).objs.size = s.heap.objs.size + 3 := by rw [Heap.size_push, z2]
  have z4 : (y4 s.heap a b c d).objs.size = s.heap.objs.size + 4 := by rw [Heap.size_push, z3]
  have z5 : (y5 s.heap a b c d).objs.size = s.heap.objs.size + 5 := by rw [Heap.size_push, z4]
  have z6 : (y6 s.heap a b c d).objs.size = s.heap.objs.size + 6 := by rw [Heap.size_push, z5]
  have z7 : (y7 s.heap a b c d).objs.size = s.heap.objs.size + 7 := by rw [Heap.size_push, z6]
  have p7 : ∀ q o, (y6 s.heap a b c d).get? q = some o → (y7 s.heap a b c d).get? q = some o := fun q o e => Heap.get?_push_of_some _ e
  have p6 : ∀ q o, (y5 s.heap a b c d).get? q = some o → (y7 s.heap a b c d).get? q = some o := fun q o e => p7 q o (Heap.get?_push_of_some _ e)
  have p5 : ∀ q o, (y4 s.heap a b c d).get? q = some o → (y7 s.heap a b c d).get? q = some o := fun q o e => p6 q o (Heap.get?_push_of_some _ e)
  have p4 : ∀ q o, (y3 s.heap a b c).get? q = some o → (y7 s.heap a b c d).get? q = some o := fun q o e => p5 q o (Heap.get?_push_of_some _ e)
  have p3 : ∀ q o, (y2 s.heap a b).get? q = some o → (y7 s.heap a b c d).get? q = some o := fun q o e => p4 q o (Heap.get?_push_of_some _ e)
  have p2 : ∀ q o, (y1 s.heap a).get? q = some o → (y7 s.heap a b c d).get? q = some o := fun q o e => p3 q o (Heap.get?_push_of_some _ e)
  have p1 : ∀ q o, s.heap.get? q = some o → (y7 s.heap a b c d).get? q = some o := fun q o e => p2 q o (Heap.get?_push_of_some _ e)
  have g7 : (y7 s.heap a b c d).get? (y6 s.heap a b c d).objs.size = some _ := Heap.get?_push_size _ rfl
  have g6 := p7 (y5 s.heap a b c d).objs.size _ (Heap.get?_push_size _ rfl)
  have g5 := p6 (y4 s.heap a b c d).objs.size _ (Heap.get?_push_size _ rfl)
  have g4 := p5 (y3 s.heap a b c).objs.size _ (Heap.get?_push_size _ rfl)
  have g3 := p4 (y2 s.heap a b).objs.size _ (Heap.get?_push_size _ rfl)
  have g2 := p3 (y1 s.heap a).objs.size _ (Heap.get?_push_size _ rfl)
  have g1 := p2 s.heap.objs.size _ (Heap.get?_push_size _ rfl)
  show _ ∧ _
  rw [z4, z5, z6] at g7
  rw [z5] at g6
  rw [z1, z2, z3, z4] at g5
  rw [z3] at g4
  rw [z2] at g3
  rw [z1] at g2
  rw [z6]
  refine ⟨⟨_, g7, rfl⟩, h _ ⟨_, _, [.none, .none, .none, .none], g7, .inl rfl, g5, g6, rfl, fun e me => ?_⟩ z7 p1⟩
  unfold zi4 at me
  simp only [List.mem_cons, List.not_mem_nil, or_false] at me
  rcases me with rfl | rfl | rfl | rfl
  · exact .inl ⟨rfl, _, g1, rfl, rfl⟩
  · exact .inl ⟨rfl, _, g2, rfl, rfl⟩
  · exact .inl ⟨rfl, _, g3, rfl, rfl⟩
  · exact .inl ⟨rfl, _, g4, rfl, rfl⟩
end
end DL

namespace DL
open PySem PySem.Spec PyProof.Rows L2

/-! ### zip(*rows) of four tuples, a turn each -/
/-- the tuples at a, b, c, d as they stand at each turn, the items in a new tuple -/
def It4 (K : PySem.W.Frag) (a b c d : Addr) : It :=
  ⟨fun i H => ∃ (xa xb xc xd : List V) (p q r s : V), (SqT K H a xa ∧ SqT K H b xb ∧ SqT K H c xc ∧ SqT K H d xd) ∧ xa[i]? = some p ∧ xb[i]? = some q ∧ xc[i]? = some r ∧ xd[i]? = some s,
    fun i H v H' => ∃ T p q r s, v = .ref T ∧ H T = none ∧ H' = upd H T (.tup [p, q, r, s]) ∧ (∀ l, SqT K H a l → l[i]? = some p) ∧ (∀ l, SqT K H b l → l[i]? = some q) ∧ (∀ l, SqT K H c l → l[i]? = some r) ∧ ∀ l, SqT K H d l → l[i]? = some s,
    fun i H => ∃ xa xb xc xd : List V, (SqT K H a xa ∧ SqT K H b xb ∧ SqT K H c xc ∧ SqT K H d xd) ∧ (xa.length ≤ i ∨ xb.length ≤ i ∨ xc.length ≤ i ∨ xd.length ≤ i)⟩
theorem ZTn.re {z TI TO : Addr} {n : Nat} {a b c d : Addr} {xa xb xc xd ya yb yc yd : Array Value} {i : Nat} {h : Heap} (t : ZTn z TI TO (zi4 n a b c d xa xb xc xd) i h) : ZTn z TI TO (zi4 n a b c d ya yb yc yd) i h := by
  obtain ⟨f0, f1, ws, hz, hf, hTI, hTO, hw, hat⟩ := t
  refine ⟨f0, f1, ws, hz, hf, hTI, hTO, hw, fun e me => ?_⟩
  unfold zi4 at me
  simp only [List.mem_cons, List.not_mem_nil, or_false] at me
  rcases me with rfl | rfl | rfl | rfl
  · exact hat ⟨n, a, xa, true⟩ (by simp [zi4])
  · exact hat ⟨n + 1, b, xb, true⟩ (by simp [zi4])
  · exact hat ⟨n + 2, c, xc, true⟩ (by simp [zi4])
  · exact hat ⟨n + 3, d, xd, true⟩ (by simp [zi4])
theorem ztn_obj {n : Nat} {a b c d : Nat} {i : Nat} {h : Heap} (st : ZTn (n + 6) (n + 4) (n + 5) (zi4 n a b c d #[] #[] #[] #[]) i h) : ∀ q ∈ ([n + 6, n + 4, n + 5, n, n + 1, n + 2, n + 3] : List Addr), ∃ o, h.get? q = some o ∧ ∀ v, o.data ≠ .cell v := fun q hq => by
  obtain ⟨f0, f1, ws, hz, hf, hTI, hTO, hw, hat⟩ := st
  have i1 := hat ⟨n, a, #[], true⟩ (by simp [zi4])
  have i2 := hat ⟨n + 1, b, #[], true⟩ (by simp [zi4])
  have i3 := hat ⟨n + 2, c, #[], true⟩ (by simp [zi4])
  have i4 := hat ⟨n + 3, d, #[], true⟩ (by simp [zi4])
  have it : ∀ {e : ZI}, e.tu = true → e.At h i → ∃ o, h.get? e.it = some o ∧ ∀ v, o.data ≠ .cell v := fun {e} t q => by
    rcases q with ⟨_, o, e1, _, d1⟩ | ⟨t2, _⟩
    · exact ⟨o, e1, fun v z => by rw [d1] at z; cases z⟩
    · rw [t] at t2; cases t2
  simp only [List.mem_cons, List.not_mem_nil, or_false] at hq
  rcases hq with rfl | rfl | rfl | rfl | rfl | rfl | rfl
  · exact ⟨_, hz, fun v z => nomatch z⟩
  · exact ⟨_, hTI, fun v z => nomatch z⟩
  · exact ⟨_, hTO, fun v z => nomatch z⟩
  · exact it rfl i1
  · exact it rfl i2
  · exact it rfl i3
  · exact it rfl i4
theorem turn_zip4 {P : Program} {w : World} {K : PySem.W.Frag} {x : Str} {px : Pos} {n : Nat} {a b c d : Nat} (ha : a < n) (hb : b < n) (hc : c < n) (hd : d < n) :
    Turn P w K (.Name x px) (It4 K a b c d) [n + 6, n + 4, n + 5, n, n + 1, n + 2, n + 3] (n + 6) (fun i h => ZTn (n + 6) (n + 4) (n + 5) (zi4 n a b c d #[] #[] #[] #[]) i h) where
  mem := by simp
  obj := fun i h st q hq => ztn_obj st q hq
  keep := fun i h h' st k => by
    obtain ⟨f0, f1, ws, hz, hf, hTI, hTO, hw, hat⟩ := st
    refine ⟨f0, f1, ws, k _ (by simp) _ hz, hf, k _ (by simp) _ hTI, k _ (by simp) _ hTO, hw, fun e me => (hat e me).keep fun o q => k _ ?_ o q⟩
    unfold zi4 at me
    simp only [List.mem_cons, List.not_mem_nil, or_false] at me
    rcases me with rfl | rfl | rfl | rfl <;> simp
  item := by
    intro X hP hw hK hcalm i pins s σ H E I hf st hg
    subst hP hw hK
    obtain ⟨xa, xb, xc, xd, p, q, r, t, ⟨qa, qb, qc, qd⟩, e1, e2, e3, e4⟩ := hg
    obtain ⟨ia, ra, pa, _⟩ := I.tuple qa
    obtain ⟨ib, rb, pb, _⟩ := I.tuple qb
    obtain ⟨ic, rc, pc, _⟩ := I.tuple qc
    obtain ⟨id', rd, pd, _⟩ := I.tuple qd
    obtain ⟨ua, ga, sa⟩ := ra.get e1
    obtain ⟨ub, gb, sb⟩ := rb.get e2
    obtain ⟨uc, gc, sc⟩ := rc.get e3
    obtain ⟨ud, gd, sd⟩ := rd.get e4
    refine zip_item (Z := zi4 n a b c d ia.toArray ib.toArray ic.toArray id'.toArray) (vs := [ua, ub, uc, ud]) (zi4_apart ha hb hc hd) (by simp [zi4]) st.re (fun e me => ?_) rfl (fun j e he => ?_) (by show 4 ≤ sizeLine; decide) fun h' t1 t2 t3 t4 => ?_
    · unfold zi4 at me
      simp only [List.mem_cons, List.not_mem_nil, or_false] at me
      rcases me with rfl | rfl | rfl | rfl
      · exact .inl ⟨rfl, pa⟩
      · exact .inl ⟨rfl, pb⟩
      · exact .inl ⟨rfl, pc⟩
      · exact .inl ⟨rfl, pd⟩
    · unfold zi4 at he
      match j, he with
      | 0, he => cases he; exact ⟨ua, by simpa using ga, rfl⟩
      | 1, he => cases he; exact ⟨ub, by simpa using gb, rfl⟩
      | 2, he => cases he; exact ⟨uc, by simpa using gc, rfl⟩
      | 3, he => cases he; exact ⟨ud, by simpa using gd, rfl⟩
      | j + 4, he => simp at he
    · have hT2 : h'.get? s.heap.objs.size = some { cls := .type "tuple", data := .seq #[ua, ub, uc, ud] } := t2
      have new : ObjOk X.prog X.w (upd H s.heap.objs.size (.tup [p, q, r, t])) h' s.heap.objs.size (.tup [p, q, r, t]) :=
        ⟨by show 4 ≤ sizeLine; decide, [ua, ub, uc, ud], .cons sa (.cons sb (.cons sc (.cons sd .nil))), ⟨_, hT2, rfl, _, rfl⟩⟩
      have I1 : Inv X pins σ (upd H s.heap.objs.size (.tup [p, q, r, t])) { s with heap := h' } :=
        I.turnedNew (t' := s.toks) (ch := [n + 6, n + 4, n + 5, n, n + 1, n + 2, n + 3]) (fun v o hv q => t4 v o (fun z => hv (by simp [z])) (fun z => hv (by simp [z])) (fun e me z => hv (by
          unfold zi4 at me
          simp only [List.mem_cons, List.not_mem_nil, or_false] at me
          rcases me with rfl | rfl | rfl | rfl <;> (subst z; simp))) q) hf (Nat.le_refl _) new
      refine ⟨_, rfl, ?_⟩
      refine (show wpAny _ _ (pure ()) _ _ _ from wpAny_pure ⟨.ref s.heap.objs.size, _, I1, rfl, ⟨_, p, q, r, t, rfl, I.hok.fresh (Nat.le_refl _), rfl, fun l hl => by rw [I.tuple_inj hl qa]; exact e1, fun l hl => by rw [I.tuple_inj hl qb]; exact e2, fun l hl => by rw [I.tuple_inj hl qc]; exact e3, fun l hl => by rw [I.tuple_inj hl qd]; exact e4⟩, t1.re, fun v hv => ?_⟩)
      obtain ⟨o, ho, _⟩ := ztn_obj st v hv
      rw [upd_ne (Nat.ne_of_lt (Heap.lt_size ho))]
      exact (hf v hv).1
  done := by
    intro X hP hw hK hcalm i pins s σ H E I hf st hg
    subst hP hw hK
    obtain ⟨xa, xb, xc, xd, ⟨qa, qb, qc, qd⟩, hend⟩ := hg
    obtain ⟨ia, ra, pa, _⟩ := I.tuple qa
    obtain ⟨ib, rb, pb, _⟩ := I.tuple qb
    obtain ⟨ic, rc, pc, _⟩ := I.tuple qc
    obtain ⟨id', rd, pd, _⟩ := I.tuple qd
    have la := ra.length
    have lb := rb.length
    have lc := rc.length
    have ld := rd.length
    refine zip_stop (Z := zi4 n a b c d ia.toArray ib.toArray ic.toArray id'.toArray) (I.ok.hd hcalm) (zi4_apart ha hb hc hd) (by simp [zi4]) st.re (fun e me => ?_) (by show 4 ≤ sizeLine; decide) ?_ fun h' t4 => ?_
    · unfold zi4 at me
      simp only [List.mem_cons, List.not_mem_nil, or_false] at me
      rcases me with rfl | rfl | rfl | rfl
      · exact .inl ⟨rfl, pa⟩
      · exact .inl ⟨rfl, pb⟩
      · exact .inl ⟨rfl, pc⟩
      · exact .inl ⟨rfl, pd⟩
    · rcases hend with q | q | q | q
      · exact ⟨⟨n, a, ia.toArray, true⟩, by simp [zi4], by simp; omega⟩
      · exact ⟨⟨n + 1, b, ib.toArray, true⟩, by simp [zi4], by simp; omega⟩
      · exact ⟨⟨n + 2, c, ic.toArray, true⟩, by simp [zi4], by simp; omega⟩
      · exact ⟨⟨n + 3, d, id'.toArray, true⟩, by simp [zi4], by simp; omega⟩
    · exact ⟨rfl, I.turnedL (t' := s.toks) (ch := [n + 6, n + 4, n + 5, n, n + 1, n + 2, n + 3]) (fun v o hv q => t4 v o (fun z => hv (by simp [z])) (fun z => hv (by simp [z])) (fun e me z => hv (by
          unfold zi4 at me
          simp only [List.mem_cons, List.not_mem_nil, or_false] at me
          rcases me with rfl | rfl | rfl | rfl <;> (subst z; simp))) q) hf⟩
  self := fun A i s Q E st h => by
    obtain ⟨f0, f1, ws, hz, _⟩ := st
    have ty : s.TypeIs (.ref (n + 6)) "zip" := ⟨_, hz, rfl⟩
    apply wpAny_pyIter_slot ty F.slot_zip_iter
    apply wpAny_call_entry F.slot_zip_iter ty F.entry_zip_iter ?_ (F.args_zip_iter_1 _)
    show wpAny _ _ (ret (.ref (n + 6))) _ _ s
    exact wpAny_pure ⟨_, rfl, "zip", _, ty, F.slot_zip_next.lookup, h⟩
end DL

namespace DL
open PySem PySem.Spec PyProof.Rows L2 StX

/-- what is asked of rows: four tuples, in a tuple or a list -/
def iZs (K : PySem.W.Frag) (te : TE) : TI := fun σ H R => te σ H fun y H1 => ∃ (q a b c d : Addr) (xa xb xc xd : List V), y = .ref q ∧ (SqT K H1 q [.ref a, .ref b, .ref c, .ref d] ∨ SqL K H1 q [.ref a, .ref b, .ref c, .ref d]) ∧
  (SqT K H1 a xa ∧ SqT K H1 b xb ∧ SqT K H1 c xc ∧ SqT K H1 d xd) ∧ R (It4 K a b c d) H1
theorem call_starT {M : Model} {A : Around} {E : Value → Shared → Prop} {s : Shared} {env : Env} {pos p : Pos} {e : Expr} {ty : String} {Q : Value → Shared → Prop} (he : starEach [.Starred e p] env = [(true, eval e env)])
    (h : wpAny M A (eval e env) (fun v s₁ => PySem.W.StarOf M A E v (fun vs s₂ => True ∧ wpAny M A (call (.type ty) ([] ++ vs)) Q E s₂) s₁) E s) : wpAny M A (callWith pos (.type ty) [] (backTo pos (starEach [.Starred e p] env)) []) Q E s := by
  rw [he]
  exact PySem.W.ks_call (P := fun _ => True) rfl (fun h _ => ⟨.machine, .inr (.inl rfl), PySem.W.Looks.of_pure rfl⟩) (PySem.W.ks_lone h)
theorem pi_zipStar {X : Cx} {e : Expr} {te : TE} {p pos px sp : Pos} {x : Str} (hg : Gl X "zip") (hm : X.mg "zip" = none) (he : PE X e te)
    (hst : starEach [.Starred e sp] X.env = [(true, eval e X.env)] := by rfl) : PI X (.Name x px) (.Call (.Name "zip" p) [.Starred e sp] [] pos) (iZs X.K te) := by
  refine ⟨fun pins s σ H R I h => ?_⟩
  refine Call_ (ld_blt I hg hm PyProof.Rows.boot_zip (call_starT hst (thn (he.run pins s σ H _ I h) fun v s1 ⟨y, H1, I1, ry, rest⟩ => ?_)))
  obtain ⟨q, a, b, c, d, xa, xb, xc, xd, ey, hq, ⟨qa, qb, qc, qd⟩, go⟩ := rest
  subst ey
  obtain rfl : v = Value.ref q := ry
  refine star_any I1 hq fun us s2 I2 rv => ⟨trivial, ?_⟩
  cases rv with
  | cons r1 rv =>
    cases rv with
    | cons r2 rv =>
      cases rv with
      | cons r3 rv =>
        cases rv with
        | cons r4 rv =>
          cases rv
          cases r1
          cases r2
          cases r3
          cases r4
          obtain ⟨ia, ra, pa, _⟩ := I2.tuple qa
          obtain ⟨ib, rb, pb, _⟩ := I2.tuple qb
          obtain ⟨ic, rc, pc, _⟩ := I2.tuple qc
          obtain ⟨id', rd, pd, _⟩ := I2.tuple qd
          have la : a < s2.heap.objs.size := by obtain ⟨o, ho, _⟩ := id pa; exact Heap.lt_size ho
          have lb : b < s2.heap.objs.size := by obtain ⟨o, ho, _⟩ := id pb; exact Heap.lt_size ho
          have lc : c < s2.heap.objs.size := by obtain ⟨o, ho, _⟩ := id pc; exact Heap.lt_size ho
          have ld : d < s2.heap.objs.size := by obtain ⟨o, ho, _⟩ := id pd; exact Heap.lt_size ho
          show wpAny _ _ (call (.type "zip") [.ref a, .ref b, .ref c, .ref d]) _ _ s2
          refine call_zip4 (show s2.heap.IsTuple a ia.toArray from pa) (show s2.heap.IsTuple b ib.toArray from pb) (show s2.heap.IsTuple c ic.toArray from pc) (show s2.heap.IsTuple d id'.toArray from pd) fun h' tn hsz hk => ?_
          have I3 : L2.Inv X pins σ H1 { s2 with heap := h' } := I2.kept (t' := s2.toks) hk
          have T := turn_zip4 (P := X.prog) (w := X.w) (K := X.K) (x := x) (px := px) la lb lc ld
          refine T.self _ 0 _ _ _ tn.re ⟨_, _, _, _, H1, rfl, I3, T, tn.re, fun v hv => ?_, go⟩
          have hle : s2.heap.objs.size ≤ v := by
            simp only [List.mem_cons, List.not_mem_nil, or_false] at hv
            rcases hv with rfl | rfl | rfl | rfl | rfl | rfl | rfl <;> first | exact Nat.le_refl _ | exact Nat.le_add_right _ _
          exact I2.fpOk hle (I2.hok.fresh hle)

def zip4 : List D → List D → List D → List D → List D
  | a :: as, b :: bs, c :: cs, d :: ds => .tup [a, b, c, d] :: zip4 as bs cs ds
  | _, _, _, _ => []
theorem zip4_get : ∀ {as bs cs ds : List D} {i : Nat} {z : D}, (zip4 as bs cs ds)[i]? = some z → ∃ a b c d, z = .tup [a, b, c, d] ∧ as[i]? = some a ∧ bs[i]? = some b ∧ cs[i]? = some c ∧ ds[i]? = some d
  | a :: as, b :: bs, c :: cs, d :: ds, 0, z, h => by
    rw [zip4, List.getElem?_cons_zero] at h
    cases h
    exact ⟨a, b, c, d, rfl, rfl, rfl, rfl, rfl⟩
  | a :: as, b :: bs, c :: cs, d :: ds, i + 1, z, h => by
    rw [zip4, List.getElem?_cons_succ] at h
    obtain ⟨a', b', c', d', e, e1, e2, e3, e4⟩ := zip4_get h
    exact ⟨a', b', c', d', e, by simpa using e1, by simpa using e2, by simpa using e3, by simpa using e4⟩
  | [], _, _, _, _, _, h => by simp [zip4] at h
  | _ :: _, [], _, _, _, _, h => by simp [zip4] at h
  | _ :: _, _ :: _, [], _, _, _, h => by simp [zip4] at h
  | _ :: _, _ :: _, _ :: _, [], _, _, h => by simp [zip4] at h
theorem zip4_len : ∀ (as bs cs ds : List D), (zip4 as bs cs ds).length = min (min as.length bs.length) (min cs.length ds.length)
  | a :: as, b :: bs, c :: cs, d :: ds => by
    rw [zip4, List.length_cons, zip4_len as bs cs ds]
    simp only [List.length_cons]
    omega
  | [], _, _, _ => by simp [zip4]
  | _ :: _, [], _, _ => by simp [zip4]
  | _ :: _, _ :: _, [], _ => by simp [zip4]
  | _ :: _, _ :: _, _ :: _, [] => by simp [zip4]
def zs4 : D → Option (List D)
  | .tup [.tup as, .tup bs, .tup cs, .tup ds] => some (zip4 as bs cs ds)
  | .lst [.tup as, .tup bs, .tup cs, .tup ds] => some (zip4 as bs cs ds)
  | _ => none
def zsI (f : Ev) : Ea := fun ρ => (stE f ρ).bind fun d => ofO (zs4 d)
theorem it_zip4 {K : PySem.W.Frag} {S : Hp} {a b c d : Addr} {xa xb xc xd : List V} {as bs cs ds : List D} (ha : SqT K S a xa) (hb : SqT K S b xb) (hc : SqT K S c xc) (hd : SqT K S d xd)
    (ra : RpAll K S xa as) (rb : RpAll K S xb bs) (rc : RpAll K S xc cs) (rd : RpAll K S xd ds) : ItOk K (It4 K a b c d) S (zip4 as bs cs ds) := by
  refine ⟨fun H => SqT K H a xa ∧ SqT K H b xb ∧ SqT K H c xc ∧ SqT K H d xd, fun i H v H' => ∃ T p q r s, v = .ref T ∧ H T = none ∧ H' = upd H T (.tup [p, q, r, s]) ∧ xa[i]? = some p ∧ xb[i]? = some q ∧ xc[i]? = some r ∧ xd[i]? = some s,
    ⟨fun i H hi g => ?_, fun H g => ?_, fun i H v H' hi g y => ?_⟩, fun H m => ⟨Same.seqT m ha, Same.seqT m hb, Same.seqT m hc, Same.seqT m hd⟩, fun i H x H' z S2 y e m1 m2 => ?_⟩
  · rw [zip4_len, ← ra.length, ← rb.length, ← rc.length, ← rd.length] at hi
    have h1 : i < xa.length := by omega
    have h2 : i < xb.length := by omega
    have h3 : i < xc.length := by omega
    have h4 : i < xd.length := by omega
    exact ⟨xa, xb, xc, xd, xa[i], xb[i], xc[i], xd[i], g, List.getElem?_eq_getElem h1, List.getElem?_eq_getElem h2, List.getElem?_eq_getElem h3, List.getElem?_eq_getElem h4⟩
  · refine ⟨xa, xb, xc, xd, g, ?_⟩
    rw [zip4_len, ← ra.length, ← rb.length, ← rc.length, ← rd.length]
    omega
  · obtain ⟨T, p, q, r, s, e1, e2, e3, k1, k2, k3, k4⟩ := y
    exact ⟨T, p, q, r, s, e1, e2, e3, k1 xa g.1, k2 xb g.2.1, k3 xc g.2.2.1, k4 xd g.2.2.2⟩
  · obtain ⟨T, p, q, r, s, rfl, hT, rfl, e1, e2, e3, e4⟩ := y
    obtain ⟨a', b', c', d', rfl, k1, k2, k3, k4⟩ := zip4_get e
    obtain ⟨p', g1, v1⟩ := ra.get k1
    obtain ⟨q', g2, v2⟩ := rb.get k2
    obtain ⟨r', g3, v3⟩ := rc.get k3
    obtain ⟨s', g4, v4⟩ := rd.get k4
    rw [e1] at g1
    rw [e2] at g2
    rw [e3] at g3
    rw [e4] at g4
    obtain rfl := Option.some.inj g1
    obtain rfl := Option.some.inj g2
    obtain rfl := Option.some.inj g3
    obtain rfl := Option.some.inj g4
    have ex := Ext.mk1 m2 hT (.tup [p, q, r, s])
    exact ⟨_, ex, .tup (SqT.of upd_same) (.cons ((v1.mono m1).mono ex.ss) (.cons ((v2.mono m1).mono ex.ss) (.cons ((v3.mono m1).mono ex.ss) (.cons ((v4.mono m1).mono ex.ss) .nil))))⟩

/-- the rows of four, as they lie -/
theorem rows4 {K : PySem.W.Frag} {S H : Hp} {xs : List V} {as bs cs ds : List D} (hs : Same S H) (r : RpAll K S xs [.tup as, .tup bs, .tup cs, .tup ds]) : ∃ (a b c d : Addr) (xa xb xc xd : List V), xs = [.ref a, .ref b, .ref c, .ref d] ∧
    (SqT K H a xa ∧ SqT K H b xb ∧ SqT K H c xc ∧ SqT K H d xd) ∧ ItOk K (It4 K a b c d) S (zip4 as bs cs ds) := by
  cases r with
  | cons r1 r =>
    cases r with
    | cons r2 r =>
      cases r with
      | cons r3 r =>
        cases r with
        | cons r4 r =>
          cases r
          cases r1 with
          | tup h1 q1 =>
            cases r2 with
            | tup h2 q2 =>
              cases r3 with
              | tup h3 q3 =>
                cases r4 with
                | tup h4 q4 => exact ⟨_, _, _, _, _, _, _, _, rfl, ⟨Same.seqT hs h1, Same.seqT hs h2, Same.seqT hs h3, Same.seqT hs h4⟩, it_zip4 h1 h2 h3 h4 q1 q2 q3 q4⟩
section
variable {X : Cx} {W : WX} {e : Expr} {f : Ev} {p pos px sp : Pos} {x : Str}
theorem i_zipStar (hm : X.mg "zip" = none) (he : PE X e (T X.K W f)) (hg : Gl X "zip" := by rfl) (hst : starEach [.Starred e sp] X.env = [(true, eval e X.env)] := by rfl) :
    PI X (.Name x px) (.Call (.Name "zip" p) [.Starred e sp] [] pos) (TIs X.K W (zsI f)) := PI.imp (pi_zipStar hg hm he hst) fun σ H R q => by
  obtain ⟨S0, H0, S, ρ, Re, p⟩ := q
  refine t_stE ⟨S0, H0, S, ρ, Re, ?_⟩
  unfold zsI at p
  cases e : stE f ρ with
  | ok d =>
    rw [e] at p
    obtain ⟨d0, _, hd⟩ := stE_ok e
    refine fun v S1 H1 ex r => ?_
    have r := settle_rp hd r
    simp only [bind_ok] at p
    cases z : zs4 d with
    | none => rw [z] at p; exact p.elim
    | some ds =>
      rw [z] at p
      unfold zs4 at z
      split at z
      · cases z
        cases r with
        | tup h1 q =>
          obtain ⟨a, b, c, d, xa, xb, xc, xd, rfl, h, it⟩ := rows4 ex.sh q
          exact ⟨_, a, b, c, d, xa, xb, xc, xd, rfl, .inl (Same.seqT ex.sh h1), h, p _ S1 H1 ex it⟩
      · cases z
        cases r with
        | lst h1 q =>
          obtain ⟨a, b, c, d, xa, xb, xc, xd, rfl, h, it⟩ := rows4 ex.sh q
          exact ⟨_, a, b, c, d, xa, xb, xc, xd, rfl, .inr (SqL.of (ex.sh _ _ h1)), h, p _ S1 H1 ex it⟩
      · cases z
  | err x => rw [e] at p; exact p
  | st => rw [e] at p; exact p
end
end DL

section
set_option autoImplicit false
namespace DL
open PySem L2

/-! ### objects that stay as they are made -/
theorem make_guards {A : Around} {C : Addr} {us : List Value} {kw : List (Str × Value)} (h : A.guards = some []) : (A.under (.builtin "type.__call__" ⟨.ref C :: us, kw⟩)).guards = some [] := by
  have e : Code.guards (.builtin "type.__call__" ⟨.ref C :: us, kw⟩) = [] := by
    have q : Code.isGuard (.builtin "type.__call__" ⟨.ref C :: us, kw⟩) = false := (by decide +kernel : guardIds.contains "type.__call__" = false)
    unfold Code.guards
    rw [q] <;> rfl
  unfold Around.under
  rw [e]
  exact h
section
variable {X : Cx} {k : Nat} {f C : Addr} {fd : FuncData} {ps : List Str} {sp : Sp} {W : WX} {x m : Str} {p pos apos : Pos} {e o : Expr} {es : List Expr} {ta : TE} {t : TA}
theorem run_makeG {pins : List (Addr × Obj)} {σ : L2.St} {H : Hp} {s : Shared} {Q : VK} {us : List Value} {vs : List V} (M : Mk X.K C f) (F : FnG X.prog X.w X.K X.mg X.base k f fd ps sp) (hr : Room (k + 1) X.A) (gd : X.A.guards = some []) (hb : Binds X.K fd ps []) (tk : Takes X W)
    (I : Inv X pins σ H s) (r : Vals vs us)
    (h : ∀ x dx, H x = none → H dx = none → dx ≠ x → sp (.ref x :: vs) (upd (upd H dx (.own x)) x (.ins C dx [])) (fun v H2 => v = .non ∧ Q (.ref x) H2) (WE W σ)) :
    wpAny (model X.prog X.w) X.A (call (.ref C) us) (EP X pins σ Q) X.xe s := by
  have hq := h (s.heap.objs.size + 1) s.heap.objs.size (I.hok.fresh (Nat.le_succ _)) (I.hok.fresh (Nat.le_refl _)) (Nat.ne_of_lt (Nat.lt_succ_self _))
  have I2 := Inv.made (C := C) I
  have r2 : Vals (V.ref (s.heap.objs.size + 1) :: vs) (Value.ref (s.heap.objs.size + 1) :: us) := .cons rfl r
  have hl : (Value.ref (s.heap.objs.size + 1) :: us).length = ps.length := by
    have e := r2.length
    rw [F.len _ _ _ _ hq] at e
    exact e.symm
  have bnd := hb _ (Value.ref (s.heap.objs.size + 1) :: us) I2.kIn (by rw [List.append_nil]; exact hl)
  rw [List.append_nil] at bnd
  refine wpAny_call (make_map (f := f) I.kIn M.makes M.init (beq_iff_eq.mp M.fn) (codeAny_mono (F.run _ X.stack _ _ ⟨Value.ref (s.heap.objs.size + 1) :: us, []⟩ (Value.ref (s.heap.objs.size + 1) :: us) _ _ (WE W σ) (hr.make C us []) (make_guards gd)
    (I2.env0.make C us []) bnd r2 hq) fun r s' hq' => ?_))
  match r, hq' with
  | .error u, hq' => exact passAt tk σ pins _ _ u s' I2 hq'
  | .ok (.ret u), hq' =>
    obtain ⟨v, H', I3, rv, evq, q3⟩ := I2.after hq'
    subst evq
    exact ⟨rv, ⟨V.ref (s.heap.objs.size + 1), H', I3, rfl, q3⟩⟩
end

open PySem.Spec PyProof.Rows
/-! what an __init__ makes -/
def spI (K : PySem.W.Frag) (C : Addr) (n : Nat) (F : Addr → List D → Res (List (Str × D))) : Sp := fun vs H Q E => vs.length = n + 1 ∧ ∃ x dx rest H1 S ds, vs = V.ref x :: rest ∧ H = upd (upd H1 dx (.own x)) x (.ins C dx []) ∧ H1 x = none ∧ H1 dx = none ∧ dx ≠ x ∧ Same S H1 ∧ RpAll K S rest ds ∧ (match F x ds with
  | .ok fs => ∀ dx' vs' S' H', Ext S H1 S' H' → S' x = none → H' x = some (.ins C dx' vs') → RpF K S' vs' fs → Q .non H'
  | .err y => ∀ dd S' H', Ext S H1 S' H' → XAt y dd H' → E y.cls dd H'
  | .st => False)
def obAt (o : Option Slot) (x C : Addr) : Res (List (Str × D)) := match o with
  | some (.ob y C' fs) => if y = x ∧ C' = C then .ok fs else .st
  | _ => .st
def runI (C : Addr) (m : Nat) (f : Es) : Addr → List D → Res (List (Str × D)) := fun x ds => match f (.ob x C [] :: (ds.map Slot.v ++ List.replicate m .un)) with
  | .nx ρ => obAt ρ[0]? x C
  | .er y _ => .err y
  | _ => .st
theorem start_relI {K : PySem.W.Frag} {S H1 : Hp} {N : List Str} {rest : List V} {ds : List D} {m : Nat} {x dx C : Addr} (hs : Same S H1) (hx : H1 x = none) (hdx : H1 dx = none) (ne : dx ≠ x) (r : RpAll K S rest ds) (hN : N.length = (rest.length + 1) + m) :
    Rel K S H1 S (upd (upd H1 dx (.own x)) x (.ins C dx [])) (L2.start N (V.ref x :: rest)) (.ob x C [] :: (ds.map Slot.v ++ List.replicate m .un)) := by
  have hm : N.length - (V.ref x :: rest).length = m := by rw [List.length_cons]; omega
  have hl := r.length
  have ex1 := Ext.mk0 (S := S) (H := H1) hs hdx (.own x)
  have ex2 := Ext.mk0 (S := S) (H := upd H1 dx (.own x)) ex1.sh (p := x) (by rw [upd_ne (Ne.symm ne)]; exact hx) (.ins C dx [])
  have ex := ex1.trans ex2
  unfold L2.start
  rw [hm]
  refine ⟨ex, by simp [hl], fun i s e => ?_, fun i j l fs es n e1 e2 e3 e4 => ?_⟩
  · cases i with
    | zero =>
      rw [List.getElem?_cons_zero] at e
      cases e
      exact ⟨_, rfl, dx, [], rfl, hx, hs.free hx, upd_same, .nil⟩
    | succ i =>
      rw [List.getElem?_cons_succ] at e
      rw [List.map_cons, List.cons_append, List.getElem?_cons_succ]
      rw [List.getElem?_append] at e
      rw [List.getElem?_append]
      rw [List.length_map] at e ⊢
      rw [hl]
      split at e
      · rename_i h
        rw [if_pos h]
        rw [List.getElem?_map] at e ⊢
        cases e2 : ds[i]? with
        | none => rw [e2] at e; cases e
        | some d =>
          rw [e2] at e
          cases e
          obtain ⟨v, h1, h2⟩ := r.get e2
          rw [h1]
          exact ⟨_, rfl, v, rfl, h2⟩
      · rename_i h
        rw [if_neg h]
        rw [List.getElem?_replicate] at e ⊢
        split at e
        · rename_i h2
          cases e
          rw [if_pos h2]
          exact ⟨_, rfl, trivial⟩
        · cases e
  · cases i with
    | zero => rw [List.getElem?_cons_zero] at e1; cases e1
    | succ i =>
      rw [List.getElem?_cons_succ, List.getElem?_append] at e1
      split at e1
      · rw [List.getElem?_map] at e1
        cases e5 : ds[i]? with
        | none => rw [e5] at e1; cases e1
        | some d => rw [e5] at e1; cases e1
      · rw [List.getElem?_replicate] at e1
        split at e1 <;> cases e1
/-- a class of the module by its name: what its objects are made of -/
structure Ini (P : Program) (w : World) (K : PySem.W.Frag) (mg : Str → Option Value) (base : Heap) (x : Str) (C : Addr) (k n : Nat) (F : Addr → List D → Res (List (Str × D))) : Prop where
  ex : ∃ (f : Addr) (fd : FuncData) (ps : List Str), FnG P w K mg base k f fd ps (spI K C n F) ∧ Mk K C f ∧ mg x = some (.ref C) ∧ Binds K fd ps []
/-- where a method of the text stands -/
structure AtM (K : PySem.W.Frag) (C : Addr) (m qual : Str) (st : Stmt) (ps : List Str) : Prop where
  ex : ∃ (f : Addr) (fd : FuncData), Fun K m qual st f fd ∧ Meth K C m f ∧ ∀ us : List Value, us.length = ps.length → bindArgs fd ⟨us, []⟩ = pure (ps.zip us)
theorem AtM.mk' {K : PySem.W.Frag} {C : Addr} {m qual : Str} {st : Stmt} {ps : List Str} {f : Addr} {oc : Value} {od an : Option Addr} {osl : Array (Option Value)} {kV doc pm cdv ct : Value}
    (a : PySem.W.findIn K (.ref C) m = some (some (.ref f))) (i : PySem.W.isFn K (.ref f) = true) (l : K.lookup f = some ⟨oc, od, .func (PySem.W.fnOf m qual (defArgs st) (defBody st) (defScope st) .none kV doc pm an cdv ct), osl⟩)
    (c : PySem.W.codeIn K cdv qual = true) (k : PySem.W.keepIn K (.ref f) = true)
    (b : ∀ (kV doc pm : Value) (an : Option Addr) (cdv ct : Value) (us : List Value), us.length = ps.length → bindArgs (PySem.W.fnOf m qual (defArgs st) (defBody st) (defScope st) .none kV doc pm an cdv ct) ⟨us, []⟩ = pure (ps.zip us)) : AtM K C m qual st ps :=
  ⟨f, _, fun_mk l c k, ⟨a, i, k⟩, b kV doc pm an cdv ct⟩
/-- a method -/
structure Mth (P : Program) (w : World) (K : PySem.W.Frag) (mg : Str → Option Value) (base : Heap) (C : Addr) (m : Str) (k n : Nat) (F : List D → Res D) : Prop where
  ex : ∃ (f : Addr) (fd : FuncData) (ps : List Str), FnG P w K mg base k f fd ps (spD K n F) ∧ Meth K C m f ∧ Binds K fd ps []
section
variable {P : Program} {w : World} {K : PySem.W.Frag} {mg : Str → Option Value} {base : Heap}
theorem spD_run' {N ps : List Str} {m k : Nat} {name qual : Str} {st : Stmt} {f : Addr} {fd : FuncData} {fb : Es} (F : Fun K name qual st f fd) (S : FnScope N ps (defScope st)) (hm : N.length = ps.length + m)
    (hb : ∀ (f : Addr) (cdv : Value) (A : Around) (outer : List Env) (s : Shared) (H : Hp) (E : XK), Room k (A.deeper (envOfC qual (defScope st) s.heap.objs.size f cdv)) → A.guards = some [] →
      PSs (cxOf (L2.CX P w) P w K mg base N qual (defScope st) f cdv A outer s H E) (defBody st) (TSt K (fun cls d _ H' => E cls d H') fb)) : FnG P w K mg base (k + 1) f fd ps (spD K ps.length (runF m fb)) := by
  obtain ⟨oc, od, kV, doc, pm, an, cdv, ct, osl, rfl, lk, hcd⟩ := F.ex
  refine fnG_of lk hcd S (fun vs H Q E h => h.1) fun A outer s H vs Q E hr gd h => ⟨_, hb f cdv A outer s H E hr gd, ?_⟩
  obtain ⟨hn, S1, ds, hs, r, q⟩ := h
  refine ⟨S1, H, S1, _, start_rel hs r (by rw [hn]; exact hm), ?_⟩
  unfold runF at q
  cases e : fb (ds.map Slot.v ++ List.replicate m .un) with
  | rt d => rw [e] at q; exact q
  | nx ρ => rw [e] at q; exact fun σ S' H' R => q _ S' H' R.ex .non
  | er x ρ => rw [e] at q; exact fun dd σ S' H' R hx => q dd S' H' R.ex hx
  | bk ρ => rw [e] at q; exact q.elim
  | ct ρ => rw [e] at q; exact q.elim
  | st => rw [e] at q; exact q.elim
theorem Mth.of {N ps : List Str} {m k : Nat} {C : Addr} {name qual : Str} {st : Stmt} {fb : Es} (a : AtM K C name qual st ps) (S : FnScope N ps (defScope st)) (hm : N.length = ps.length + m)
    (hb : ∀ (f : Addr) (cdv : Value) (A : Around) (outer : List Env) (s : Shared) (H : Hp) (E : XK), Room k (A.deeper (envOfC qual (defScope st) s.heap.objs.size f cdv)) → A.guards = some [] →
      PSs (cxOf (L2.CX P w) P w K mg base N qual (defScope st) f cdv A outer s H E) (defBody st) (TSt K (fun cls d _ H' => E cls d H') fb)) : Mth P w K mg base C name (k + 1) ps.length (runF m fb) := by
  obtain ⟨f, fd, F, hm', hb'⟩ := a.ex
  exact ⟨f, fd, ps, spD_run' F S hm hb, hm', .all hb'⟩
theorem Ini.of {N ps : List Str} {p0 : Str} {m k : Nat} {x qual : Str} {C : Addr} {st : Stmt} {fb : Es} (a : AtM K C "__init__" qual st (p0 :: ps)) (hC : mg x = some (.ref C)) (M : ∀ f, PySem.W.findIn K (.ref C) "__init__" = some (some (.ref f)) → PySem.W.isFn K (.ref f) = true → Mk K C f)
    (S : FnScope N (p0 :: ps) (defScope st)) (hm : N.length = (ps.length + 1) + m)
    (hb : ∀ (f : Addr) (cdv : Value) (A : Around) (outer : List Env) (s : Shared) (H : Hp) (E : XK), Room k (A.deeper (envOfC qual (defScope st) s.heap.objs.size f cdv)) → A.guards = some [] →
      PSs (cxOf (L2.CX P w) P w K mg base N qual (defScope st) f cdv A outer s H E) (defBody st) (TSt K (fun cls d _ H' => E cls d H') fb)) :
    Ini P w K mg base x C (k + 1) ps.length (runI C m fb) := by
  obtain ⟨f, fd, F, hm', hb'⟩ := a.ex
  refine ⟨f, fd, p0 :: ps, ?_, M f hm'.at_ hm'.fn, hC, .all hb'⟩
  obtain ⟨oc, od, kV, doc, pm, an, cdv, ct, osl, rfl, lk, hcd⟩ := F.ex
  refine fnG_of lk hcd S (fun vs H Q E h => by rw [h.1]; rfl) fun A outer s H vs Q E hr gd h => ⟨_, hb f cdv A outer s H E hr gd, ?_⟩
  obtain ⟨hn, x, dx, rest, H1, S1, ds, rfl, rfl, hx, hdx, ne, hs, r, q⟩ := h
  rw [List.length_cons] at hn
  refine ⟨S1, H1, S1, _, start_relI (m := m) hs hx hdx ne r (by rw [hm]; omega), ?_⟩
  unfold runI at q
  cases e : fb (.ob x C [] :: (ds.map Slot.v ++ List.replicate m .un)) with
  | rt d => rw [e] at q; exact q.elim
  | nx ρ =>
    rw [e] at q
    intro σ S' H' R
    have q : (match obAt ρ[0]? x C with
      | .ok fs => ∀ dx' vs' S' H', Ext S1 H1 S' H' → S' x = none → H' x = some (.ins C dx' vs') → RpF K S' vs' fs → Q .non H'
      | .err y => ∀ dd S' H', Ext S1 H1 S' H' → XAt y dd H' → E y.cls dd H'
      | .st => False) := q
    cases e0 : ρ[0]? with
    | none => rw [e0] at q; exact q.elim
    | some s0 =>
      rw [e0] at q
      cases s0 with
      | ob y C' fs =>
        have q2 : (match (if y = x ∧ C' = C then Res.ok fs else .st : Res (List (Str × D))) with
          | .ok fs => ∀ dx' vs' S' H', Ext S1 H1 S' H' → S' x = none → H' x = some (.ins C dx' vs') → RpF K S' vs' fs → Q .non H'
          | .err y => ∀ dd S' H', Ext S1 H1 S' H' → XAt y dd H' → E y.cls dd H'
          | .st => False) := q
        by_cases hy : y = x ∧ C' = C
        · rw [if_pos hy] at q2
          obtain ⟨rfl, rfl⟩ := hy
          obtain ⟨z, z1, dx', vs', z2, z3, z4, z5, z6⟩ := R.at_ 0 _ e0
          exact q2 dx' vs' S' H' R.ex z4 z5 z6
        · rw [if_neg hy] at q2; exact q2.elim
      | _ => exact q.elim
  | er y ρ => rw [e] at q; exact fun dd σ S' H' R hx => q dd S' H' R.ex hx
  | bk ρ => rw [e] at q; exact q.elim
  | ct ρ => rw [e] at q; exact q.elim
  | st => rw [e] at q; exact q.elim
end
end DL

end
section
set_option autoImplicit false
namespace DL
open PySem L2
open PySem.Spec PyProof.Rows

/-! ### C(..) -/
open Classical in
/-- what comes out wherever the object lies -/
noncomputable def joinR {α : Type} (g : Addr → Res α) : Res α := if ∀ a, g a = g 0 then g 0 else .st
theorem joinR_of {α : Type} {g : Addr → Res α} {o : Res α} (h : ∀ a, g a = o) : joinR g = o := by
  unfold joinR
  rw [if_pos fun a => by rw [h a, h 0], h 0]
theorem joinR_at {α : Type} {g : Addr → Res α} (a : Addr) : joinR g = .st ∨ joinR g = g a := by
  unfold joinR
  by_cases h : ∀ a, g a = g 0
  · rw [if_pos h, h a]; exact .inr rfl
  · rw [if_neg h]; exact .inl rfl
noncomputable def makeE (C : Addr) (n : Nat) (F : Addr → List D → Res (List (Str × D))) (fs : Ea) : Ev := fun ρ => (fs ρ).bind fun ds => if ds.length = n then (joinR fun x => F x ds).bind fun l => .ok (.obj C l) else .st
def tMakeG (C : Addr) (sp : Sp) (W : WX) (t : TA) : TE := fun σ H Q => t σ H fun vs H1 => ∀ x dx, H1 x = none → H1 dx = none → dx ≠ x → sp (.ref x :: vs) (upd (upd H1 dx (.own x)) x (.ins C dx [])) (fun v H2 => v = .non ∧ Q (.ref x) H2) (WE W σ)
section
variable {X : Cx} {k n : Nat} {f C : Addr} {fd : FuncData} {ps : List Str} {sp : Sp} {W : WX} {x m : Str} {p pos apos : Pos} {e o : Expr} {es : List Expr} {ta : TE} {t : TA} {F : Addr → List D → Res (List (Str × D))} {G : List D → Res D} {fs : Ea} {fo : Ev}
theorem pe_makeG (M : Mk X.K C f) (F : FnG X.prog X.w X.K X.mg X.base k f fd ps sp) (hr : Room (k + 1) X.A) (gd : X.A.guards = some []) (hg : Gl X x) (hm : X.mg x = some (.ref C)) (hb : Binds X.K fd ps []) (tk : Takes X W)
    (ha : PA X (e :: es) t) (hdb : (x == ("__debug__" : Str)) = false := by decide) (he : starEach (e :: es) X.env = (false, eval e X.env) :: starEach es X.env := by rfl) (hpl : (backTo pos (starEach es X.env)).any (·.1) = false := by rfl) :
    PE X (.Call (.Name x p) (e :: es) [] pos) (tMakeG C sp W t) where
  run := fun pins s σ H Q I h => wpAny_Call_Name_kw (ld_glob I hg hm (PySem.W.callWith_K (h₀ := X.base) I.ok.mod.kin M.kp
    (thn (ha.run pos pins s σ H _ I h) fun us s1 ⟨vs, H1, I1, r, q⟩ => ⟨I1.kIn, run_makeG M F hr gd hb tk I1 r q⟩) he hpl) hdb)
theorem pe_makeG0 (M : Mk X.K C f) (F : FnG X.prog X.w X.K X.mg X.base k f fd ps sp) (hr : Room (k + 1) X.A) (gd : X.A.guards = some []) (hg : Gl X x) (hm : X.mg x = some (.ref C)) (hb : Binds X.K fd ps []) (tk : Takes X W)
    (hdb : (x == ("__debug__" : Str)) = false := by decide) : PE X (.Call (.Name x p) [] [] pos) (tMakeG C sp W tNil) where
  run := fun pins s σ H Q I h => wpAny_Call_Name_kw (ld_glob I hg hm (PySem.W.callWith_K0 I.kIn M.kp (run_makeG (us := []) M F hr gd hb tk I .nil h)) hdb)
theorem t_make {K : PySem.W.Frag} {σ : L2.St} {H : Hp} {Q : VK} (h : T K W (makeE C n F fs) σ H Q) : tMakeG C (spI K C n F) W (TAs K W fs) σ H Q := by
  obtain ⟨S0, H0, S, ρ, R, p⟩ := h
  refine ⟨S0, H0, S, ρ, R, ?_⟩
  unfold makeE at p
  cases e : fs ρ with
  | err y => rw [e] at p; exact p
  | st => rw [e] at p; exact p
  | ok ds =>
    rw [e] at p
    simp only [bind_ok] at p
    by_cases hl : ds.length = n
    · rw [if_pos hl] at p
      intro vs S1 H1 ex r x dx hx hdx ne
      refine ⟨by rw [List.length_cons, r.length, hl], x, dx, vs, H1, S1, ds, rfl, rfl, hx, hdx, ne, ex.sh, r, ?_⟩
      rcases joinR_at (g := fun x => F x ds) x with ej | ej
      · rw [ej] at p; exact p.elim
      · rw [ej] at p
        cases ef : F x ds with
        | ok l =>
          simp only [ef, bind_ok] at p
          intro dx' vs' S2 H2 e2 hS hH rF
          have ss : Same S2 (upd S2 x (.ins C dx' vs')) := fun b u q => by rw [upd_ne (ne_of_none q hS)]; exact q
          exact ⟨rfl, p (.ref x) _ H2 (ex.trans (e2.settle hx hS hH)) (.obj upd_same (rF.mono ss))⟩
        | err y => simp only [ef, bind_err] at p; exact fun dd S2 H2 e2 hx' => p dd S2 H2 (ex.trans e2) hx'
        | st => simp only [ef, bind_st] at p; exact p
    · rw [if_neg hl] at p; exact p.elim
theorem d_make {j : Nat} (G : Ini X.prog X.w X.K X.mg X.base x C k n F) (hr : Room j X.A) (hj : k + 1 ≤ j) (gd : X.A.guards = some []) (tk : Takes X W) (ha : PA X (e :: es) (TAs X.K W fs)) (hg : Gl X x := by rfl) (hdb : (x == ("__debug__" : Str)) = false := by decide)
    (he : starEach (e :: es) X.env = (false, eval e X.env) :: starEach es X.env := by rfl) (hpl : (backTo pos (starEach es X.env)).any (·.1) = false := by rfl) : PE X (.Call (.Name x p) (e :: es) [] pos) (T X.K W (makeE C n F fs)) := by
  obtain ⟨f, fd, ps, G, M, hm, hb⟩ := G.ex
  exact PE.imp (pe_makeG M G (hr.mono hj) gd hg hm hb tk ha hdb he hpl) fun _ _ _ h => t_make h
theorem d_make0 {j : Nat} (G : Ini X.prog X.w X.K X.mg X.base x C k n F) (hr : Room j X.A) (hj : k + 1 ≤ j) (gd : X.A.guards = some []) (tk : Takes X W) (hg : Gl X x := by rfl) (hdb : (x == ("__debug__" : Str)) = false := by decide) :
    PE X (.Call (.Name x p) [] [] pos) (T X.K W (makeE C n F nilA)) := by
  obtain ⟨f, fd, ps, G, M, hm, hb⟩ := G.ex
  refine PE.imp (pe_makeG0 M G (hr.mono hj) gd hg hm hb tk hdb) fun σ H Q h => ?_
  obtain ⟨S0, H0, S, ρ, R, p⟩ := t_make h
  exact p [] S H (Ext.refl R.sh) .nil

/-! ### o.m(..) -/
def methR (C : Addr) (m : Str) (n : Nat) (G : List D → Res D) (fs : Res (List D)) : D → Res D
  | .obj C' fl => if C' = C ∧ fl.lookup m = none then fs.bind fun ds => if ds.length + 1 = n then G (.obj C' fl :: ds) else .st else .st
  | _ => .st
theorem methR_obj {C C' : Addr} {m : Str} {n : Nat} {G : List D → Res D} {r : Res (List D)} {fl : List (Str × D)} : methR C m n G r (.obj C' fl) = if C' = C ∧ fl.lookup m = none then r.bind fun ds => if ds.length + 1 = n then G (.obj C' fl :: ds) else .st else .st := id rfl
def methE (C : Addr) (m : Str) (n : Nat) (G : List D → Res D) (fo : Ev) (fs : Ea) : Ev := fun ρ => (fo ρ).bind fun o => methR C m n G (fs ρ) o
def tMethG (C : Addr) (m : Str) (sp : Sp) (W : WX) (ta : TE) (t : TA) : TE := fun σ H Q => ta σ H fun x H1 => ∃ a dx fs, x = .ref a ∧ H1 a = some (.ins C dx fs) ∧ fs.lookup m = none ∧ t σ H1 fun vs H2 => sp (x :: vs) H2 Q (WE W σ)
theorem pe_methG {pl : Sem Bool} (he : PE X o ta) (c : Cls X.K C) (hm : Meth X.K C m f) (F : FnG X.prog X.w X.K X.mg X.base k f fd ps sp) (hr : Room k X.A) (gd : X.A.guards = some []) (hb : Binds X.K fd ps []) (tk : Takes X W) (ha : PA X (e :: es) t)
    (hst : starEach (e :: es) X.env = (false, eval e X.env) :: starEach es X.env := by rfl) (hpl : (backTo pos (starEach es X.env)).any (·.1) = false := by rfl)
    (ht : eval (.Call (.Attribute o m apos) (e :: es) [] pos) X.env = (do
      let ov ← eval o X.env
      standAt apos.atName
      let (f, first) ← holding [ov] (getMethod ov m pl)
      callWith pos f first (backTo pos (starEach (e :: es) X.env)) (backToKw pos (keywordEach [] X.env))) := by rfl) :
    PE X (.Call (.Attribute o m apos) (e :: es) [] pos) (tMethG C m sp W ta t) := by
  refine ⟨fun pins s σ H Q I h => ?_⟩
  refine PySem.W.methodCall_KW (pl := pl) (thn (he.run pins s σ H _ I h) fun u s1 ⟨x, H1, I1, rx, a, dx, fs, ex, ea, l, q⟩ => ?_) ht
  subst ex
  obtain rfl : u = Value.ref a := rx
  refine getmeth_ok I1 ea c hm l ?_
  refine PySem.W.callWith_K (first := [.ref a]) (h₀ := X.base) I.ok.mod.kin hm.kp (thn (ha.run pos pins s1 σ H1 _ I1 q) fun us s2 ⟨vs, H2, I2, r, q2⟩ => ⟨I2.kIn, ?_⟩) hst hpl
  exact run_fnG (us := .ref a :: us) (vs := .ref a :: vs) F hr gd hb tk I2 (.cons rfl r) q2
theorem pe_methG0 {pl : Sem Bool} (he : PE X o ta) (c : Cls X.K C) (hm : Meth X.K C m f) (F : FnG X.prog X.w X.K X.mg X.base k f fd ps sp) (hr : Room k X.A) (gd : X.A.guards = some []) (hb : Binds X.K fd ps []) (tk : Takes X W)
    (ht : eval (.Call (.Attribute o m apos) [] [] pos) X.env = (do
      let ov ← eval o X.env
      standAt apos.atName
      let (f, first) ← holding [ov] (getMethod ov m pl)
      callWith pos f first (backTo pos (starEach [] X.env)) (backToKw pos (keywordEach [] X.env))) := by rfl) :
    PE X (.Call (.Attribute o m apos) [] [] pos) (tMethG C m sp W ta tNil) := by
  refine ⟨fun pins s σ H Q I h => ?_⟩
  refine PySem.W.methodCall_KW (pl := pl) (thn (he.run pins s σ H _ I h) fun u s1 ⟨x, H1, I1, rx, a, dx, fs, ex, ea, l, q⟩ => ?_) ht
  subst ex
  obtain rfl : u = Value.ref a := rx
  refine getmeth_ok I1 ea c hm l ?_
  exact PySem.W.callWith_K0 (first := [.ref a]) I1.kIn hm.kp (run_fnG (us := [.ref a]) (vs := [.ref a]) F hr gd hb tk I1 (.cons rfl .nil) q)
theorem t_meth {K : PySem.W.Frag} {σ : L2.St} {H : Hp} {Q : VK} (h : T K W (methE C m n G fo fs) σ H Q) : tMethG C m (spD K n G) W (T K W fo) (TAs K W fs) σ H Q := by
  obtain ⟨S0, H0, S, ρ, R, p⟩ := h
  refine ⟨S0, H0, S, ρ, R, ?_⟩
  unfold methE at p
  cases e : fo ρ with
  | err y => rw [e] at p; exact p
  | st => rw [e] at p; exact p
  | ok d =>
    rw [e] at p
    simp only [bind_ok] at p
    intro v S1 H1 e1 r1
    have p1 := p.ext e1
    cases d with
    | obj C' fl =>
      rw [methR_obj] at p1
      by_cases hc : C' = C ∧ fl.lookup m = none
      · rw [if_pos hc] at p1
        obtain ⟨rfl, hl⟩ := hc
        cases r1 with
        | obj hH hF =>
          rename_i a dx vs
          refine ⟨a, dx, vs, rfl, e1.sh _ _ hH, hF.lookup_none hl, S0, H0, S1, ρ, R.ext e1, ?_⟩
          cases ea : fs ρ with
          | err y => rw [ea] at p1; exact p1
          | st => rw [ea] at p1; exact p1
          | ok ds =>
            rw [ea] at p1
            simp only [bind_ok] at p1
            intro ws S2 H2 e2 r2
            have p2 := p1.ext e2
            by_cases hn : ds.length + 1 = n
            · rw [if_pos hn] at p2
              refine ⟨by rw [List.length_cons, r2.length, hn], S2, .obj C' fl :: ds, e2.sh, .cons (.obj (e2.ss _ _ hH) (hF.mono e2.ss)) r2, ?_⟩
              cases ef : G (.obj C' fl :: ds) with
              | ok d => rw [ef] at p2; exact fun v S3 H3 e3 r3 => p2 v S3 H3 e3 r3
              | err y => rw [ef] at p2; exact fun dd S3 H3 e3 hx => p2 dd S3 H3 e3 hx
              | st => rw [ef] at p2; exact p2
            · rw [if_neg hn] at p2; exact p2.elim
      · rw [if_neg hc] at p1; exact p1.elim
    | _ => exact p1.elim
theorem d_meth {j : Nat} {pl : Sem Bool} (G0 : Mth X.prog X.w X.K X.mg X.base C m k n G) (c : Cls X.K C) (hr : Room j X.A) (hj : k ≤ j) (gd : X.A.guards = some []) (tk : Takes X W) (ho : PE X o (T X.K W fo)) (ha : PA X (e :: es) (TAs X.K W fs))
    (hst : starEach (e :: es) X.env = (false, eval e X.env) :: starEach es X.env := by rfl) (hpl : (backTo pos (starEach es X.env)).any (·.1) = false := by rfl)
    (ht : eval (.Call (.Attribute o m apos) (e :: es) [] pos) X.env = (do
      let ov ← eval o X.env
      standAt apos.atName
      let (f, first) ← holding [ov] (getMethod ov m pl)
      callWith pos f first (backTo pos (starEach (e :: es) X.env)) (backToKw pos (keywordEach [] X.env))) := by rfl) :
    PE X (.Call (.Attribute o m apos) (e :: es) [] pos) (T X.K W (methE C m n G fo fs)) := by
  obtain ⟨f, fd, ps, F, hm, hb⟩ := G0.ex
  exact PE.imp (pe_methG (pl := pl) ho c hm F (hr.mono hj) gd hb tk ha hst hpl ht) fun _ _ _ h => t_meth h
theorem d_meth0 {j : Nat} {pl : Sem Bool} (G0 : Mth X.prog X.w X.K X.mg X.base C m k n G) (c : Cls X.K C) (hr : Room j X.A) (hj : k ≤ j) (gd : X.A.guards = some []) (tk : Takes X W) (ho : PE X o (T X.K W fo))
    (ht : eval (.Call (.Attribute o m apos) [] [] pos) X.env = (do
      let ov ← eval o X.env
      standAt apos.atName
      let (f, first) ← holding [ov] (getMethod ov m pl)
      callWith pos f first (backTo pos (starEach [] X.env)) (backToKw pos (keywordEach [] X.env))) := by rfl) :
    PE X (.Call (.Attribute o m apos) [] [] pos) (T X.K W (methE C m n G fo nilA)) := by
  obtain ⟨f, fd, ps, F, hm, hb⟩ := G0.ex
  refine PE.imp (pe_methG0 (pl := pl) ho c hm F (hr.mono hj) gd hb tk ht) fun σ H Q h => ?_
  obtain ⟨S0, H0, S, ρ, R, p⟩ := t_meth h
  refine ⟨S0, H0, S, ρ, R, ?_⟩
  cases e : fo ρ with
  | err y => rw [e] at p; exact p
  | st => rw [e] at p; exact p
  | ok d =>
    rw [e] at p
    intro v S1 H1 e1 r1
    obtain ⟨a, dx, fl, h1, h2, h3, S0', H0', S', ρ', R', q⟩ := p v S1 H1 e1 r1
    exact ⟨a, dx, fl, h1, h2, h3, q [] S' H1 (Ext.refl R'.sh) .nil⟩
end

/-! ### o.f -/
def fldD (Cs : List Addr) (f : Str) : D → Option D
  | .obj C fs => if C ∈ Cs then fs.lookup f else none
  | _ => none
section
variable {X : Cx} {W : WX} {e o value : Expr} {f : Str} {fo fv : Ev} {pos pos' : Pos} {Cs : List Addr}
theorem d_fld (hC : ∀ C ∈ Cs, Cls X.K C ∧ NoAttr X.K C f) (he : PE X e (T X.K W fo)) (hb : attributeBase e f X.env (eval e X.env) = eval e X.env := by rfl) : PE X (.Attribute e f pos) (T X.K W (e1 (fldD Cs f) fo)) :=
  PE.imp (pe_fld he hb) fun σ H Q h => t_e1 (r := fun x H1 Q => ∃ a C dx fs v, x = .ref a ∧ H1 a = some (.ins C dx fs) ∧ Cls X.K C ∧ NoAttr X.K C f ∧ fs.lookup f = some v ∧ Q v H1) (fun S H v dx Q hs r p => by
    unfold fldD at p
    split at p
    · rename_i C fs
      split at p
      · rename_i hm
        cases el : fs.lookup f with
        | none => rw [el] at p; exact p.elim
        | some d =>
          rw [el] at p
          cases r with
          | obj h1 h2 =>
            obtain ⟨u, h3, h4⟩ := h2.lookup el
            exact ⟨_, _, _, _, u, rfl, hs _ _ h1, (hC _ hm).1, (hC _ hm).2, h3, p.val hs h4⟩
      · exact p.elim
    · exact p.elim) h
/-! ### self.f = e -/
def putFD (f : Str) (d : D) : List (Str × D) → List (Str × D)
  | [] => [(f, d)]
  | (g, e) :: r => if g = f then (g, d) :: r else (g, e) :: putFD f d r
theorem RpF.putF {K : PySem.W.Frag} {H : Hp} {f : Str} {v : V} {d : D} (r : Rp K H v d) : ∀ {vs : List (Str × V)} {fs : List (Str × D)}, RpF K H vs fs → RpF K H (L2.putF f v vs) (putFD f d fs)
  | _, _, .nil => .cons r .nil
  | _, _, .cons (f := g) h q => by
    rw [L2.putF, putFD]
    by_cases e : g = f
    · rw [if_pos e, if_pos e]; exact .cons r q
    · rw [if_neg e, if_neg e]; exact .cons h (RpF.putF r q)
theorem RpF.length {K : PySem.W.Frag} {H : Hp} : ∀ {vs : List (Str × V)} {fs : List (Str × D)}, RpF K H vs fs → vs.length = fs.length
  | _, _, .nil => rfl
  | _, _, .cons _ q => by rw [List.length_cons, List.length_cons, q.length]
/-- the object in the making is changed -/
theorem Rel.updO {K : PySem.W.Frag} {S0 H0 S H : Hp} {σ : L2.St} {ρ : Rho} (R : Rel K S0 H0 S H σ ρ) {i : Nat} {l C dx : Addr} {vs : List (Str × V)} {fs fs' : List (Str × D)} (hi : ρ[i]? = some (.ob l C fs)) (hH : ∃ us, H l = some (.ins C dx us)) (r : RpF K S vs fs')
    (one : ∀ j D gs, ρ[j]? = some (.ob l D gs) → j = i) : Rel K S0 H0 S (L2.upd H l (.ins C dx vs)) σ (ρ.set i (.ob l C fs')) := by
  obtain ⟨x, h1, dx0, us0, h2, h3, h4, h5, h6⟩ := R.at_ i _ hi
  obtain ⟨us, hH⟩ := hH
  have hl : i < ρ.length := (List.getElem?_eq_some_iff.mp hi).1
  refine ⟨⟨R.ex.ss, fun b u e => ?_, fun b u e => ?_, R.ex.fr⟩, by rw [List.length_set]; exact R.len, fun j s' e => ?_, fun j k m fs es n e1 e2 e3 e4 => ?_⟩
  · rw [upd_ne (ne_of_none e h3)]; exact R.ex.hh _ _ e
  · rw [upd_ne (ne_of_none e h4)]; exact R.ex.sh _ _ e
  · by_cases hj : i = j
    · subst hj
      rw [List.getElem?_set_self hl] at e
      cases e
      exact ⟨_, h1, dx, vs, h2, h3, h4, upd_same, r⟩
    · rw [List.getElem?_set_ne hj] at e
      obtain ⟨x, g1, g2⟩ := R.at_ j s' e
      refine ⟨x, g1, ?_⟩
      cases s' with
      | un => trivial
      | exc a => exact g2
      | v d => exact g2
      | own es =>
        obtain ⟨m, zs, k1, k2, k3, k4, k5⟩ := g2
        have : m ≠ l := fun z => by rw [z, hH] at k4; cases k4
        exact ⟨m, zs, k1, k2, k3, by rw [upd_ne this]; exact k4, k5⟩
      | ob m D gs =>
        obtain ⟨dx', zs, k1, k2, k3, k4, k5⟩ := g2
        have : m ≠ l := fun z => hj (one j D gs (by rw [e, z])).symm
        exact ⟨dx', zs, k1, k2, k3, by rw [upd_ne this]; exact k4, k5⟩
  · have f : ∀ {m : Nat} {gs : List D}, (ρ.set i (.ob l C fs'))[m]? = some (.own gs) → ρ[m]? = some (.own gs) := fun {m gs} e => by
      by_cases hm : i = m
      · subst hm; rw [List.getElem?_set_self hl] at e; cases e
      · rw [List.getElem?_set_ne hm] at e; exact e
    exact R.dis j k m fs es n (f e1) (f e2) e3 e4
end
/-- no other slot holds an object in the making -/
def noOb : Rho → Bool
  | [] => true
  | .ob _ _ _ :: _ => false
  | _ :: r => noOb r
theorem noOb_get : ∀ {ρ : Rho} {j : Nat} {l C : Addr} {fs : List (Str × D)}, noOb ρ = true → ρ[j]? = some (.ob l C fs) → False
  | [], _, _, _, _, _, e => by simp at e
  | s :: r, 0, _, _, _, h, e => by simp at e; subst e; exact nomatch h
  | s :: r, j + 1, _, _, _, h, e => by
    rw [List.getElem?_cons_succ] at e
    refine noOb_get (ρ := r) (j := j) ?_ e
    cases s <;> first | exact h | exact nomatch h
/-- self.f = e in an __init__ of C -/
def fld1 (C : Addr) (f : Str) (d : D) : Rho → Out
  | .ob l C' fs :: r => if C' = C ∧ fs.length < 1000 ∧ noOb r = true then .nx (.ob l C' (putFD f d fs) :: r) else .st
  | _ => .st
def fldS (C : Addr) (f : Str) (fe : Ev) : Es := fun ρ => (stE fe ρ).then ρ fun d => fld1 C f d ρ
section
variable {X : Cx} {W : WX} {e o value : Expr} {f : Str} {fo fv : Ev} {pos pos' : Pos} {C : Addr}
theorem s_fld {x : Str} {px : Pos} (c : Cls X.K C) (n : NoAttr X.K C f) (hN : X.N[0]? = some x) (hv : Vis X.env.scope x) (hV : PE X value (T X.K W fv)) (hs : swapsWith value (some (.Attribute (.Name x px) f pos')) pos.line X.env = pure false := by rfl)
    (hd : (x == ("__debug__" : Str)) = false := by decide) (hcd : (x == ("__classdict__" : Str)) = false := by decide) : PS X (.Assign [.Attribute (.Name x px) f pos'] value pos) (TSt X.K W (fldS C f fv)) :=
  PS.imp (ps_fld (pe_var hN hv hd hcd) hV hs) fun D σ H q => by
    obtain ⟨S0, H0, S, ρ, R, p⟩ := q
    refine t_thenS R p fun d v S' H' ex R' r p => ?_
    match ρ, R', p with
    | [], R', p => exact p.elim
    | .un :: _, R', p => exact p.elim
    | .v _ :: _, R', p => exact p.elim
    | .own _ :: _, R', p => exact p.elim
    | .exc _ :: _, R', p => exact p.elim
    | .ob l C' fs :: rr, R', p =>
      have p2 : PostS X.K W S0 H0 D (if C' = C ∧ fs.length < 1000 ∧ noOb rr = true then .nx (.ob l C' (putFD f d fs) :: rr) else .st) := p
      by_cases hc : C' = C ∧ fs.length < 1000 ∧ noOb rr = true
      · rw [if_pos hc] at p2
        obtain ⟨rfl, hl, hno⟩ := hc
        obtain ⟨x0, h1, dx, vs, h2, h3, h4, h5, h6⟩ := R'.at_ 0 _ rfl
        subst h2
        refine ⟨_, h1, l, C', dx, vs, rfl, h5, c, n, by rw [h6.length]; exact hl, ?_⟩
        refine p2 σ S' _ (R'.updO (i := 0) rfl ⟨vs, h5⟩ (h6.putF r) fun j D gs e => ?_)
        cases j with
        | zero => rfl
        | succ j => exact (noOb_get hno (by rw [List.getElem?_cons_succ] at e; exact e)).elim
      · rw [if_neg hc] at p2; exact p2.elim
end

/-! ### isinstance(a, C), C a class of the module: of data and of objects -/
/-- tb: the answers for the module's own classes -/
def tyOf2 : D → Option Value
  | .obj C _ => some (.ref C)
  | d => tyOf d
def isoR (tb : List (Addr × Bool)) (d : D) : Option D := match d with
  | .obj C _ => (tb.lookup C).map .bl
  | d => if (tyOf d).isSome then some (.bl false) else none
def isoE (tb : List (Addr × Bool)) (f : Ev) : Ev := e1 (isoR tb) f
/-- what is known of a class whose objects are asked for -/
structure ObjC (K : PySem.W.Frag) (C : Addr) : Prop where
  cl : Cls K C
  ha : PySem.W.findIn K (.ref C) "__class__" = some (some (.builtin "object.__class__"))
  hn : PySem.W.specialIn K (.builtin "object.__class__") "__get__" = some (some (.builtin "getset_descriptor.__get__"))
  ht : PySem.W.takesIn K (.builtin "object.__class__") = some true
  hm : PySem.W.mroIn K C (.type "object") = some true
def onlyTypes : Option (List Value) → Bool
  | some l => l.all fun v => match v with | .type _ => true | _ => false
  | none => false
theorem sub_bt {K : PySem.W.Frag} {T : String} {C : Addr} (h : onlyTypes (PySem.fastBuiltinMro T) = true) : PySem.W.subIn K (.type T) (.ref C) = some false := by
  show (PySem.fastBuiltinMro T).map (·.contains (.ref C)) = some false
  cases e : PySem.fastBuiltinMro T with
  | none => rw [e] at h; cases h
  | some l =>
    rw [e] at h
    have h : l.all (fun v => match v with | .type _ => true | _ => false) = true := h
    rw [Option.map_some]
    congr 1
    rw [Bool.eq_false_iff]
    intro q
    rw [List.contains_iff_exists_mem_beq] at q
    obtain ⟨v, h1, h2⟩ := q
    have h3 := List.all_eq_true.mp h v h1
    cases v <;> first | cases h3 | skip
    cases h2
theorem kit_bt {K : PySem.W.Frag} {T : String} {C : Addr} (hd : PySem.W.hasDictIn K C = true) (ht : PySem.W.typeIn K (.ref C) = some (.type "type")) (h : onlyTypes (PySem.fastBuiltinMro T) = true) : PySem.W.kitOne K (.type T) (.ref C) = some false := by
  obtain ⟨cd, hc, _⟩ := PySem.W.any_some hd
  have e2 : ((PySem.W.clsIn K C).isSome && PySem.W.typeIn K (.ref C) == some (.type "type")) = true := by rw [hc, ht] <;> rfl
  unfold PySem.W.kitOne
  have e : (Value.type T == Value.ref C) = false := rfl
  rw [e]
  show (if ((PySem.W.clsIn K C).isSome && PySem.W.typeIn K (.ref C) == some (.type "type")) = true then PySem.W.subIn K (.type T) (.ref C) else none) = some false
  rw [if_pos e2]
  exact sub_bt h
/-- the table's facts -/
def IsoOk (K : PySem.W.Frag) (C : Addr) (tb : List (Addr × Bool)) : Prop := ∀ A b, tb.lookup A = some b → ObjC K A ∧ PySem.W.kitOne K (.ref A) (.ref C) = some b
theorem iso_nil {K : PySem.W.Frag} {C : Addr} : IsoOk K C [] := fun _ _ h => nomatch h
theorem iso_cons {K : PySem.W.Frag} {C A : Addr} {b : Bool} {l : List (Addr × Bool)} (o : ObjC K A) (h : PySem.W.kitOne K (.ref A) (.ref C) = some b) (r : IsoOk K C l) : IsoOk K C ((A, b) :: l) := fun A' b' e => by
  rw [List.lookup_cons] at e
  split at e
  · rename_i q
    cases e
    rw [eq_of_beq q]; exact ⟨o, h⟩
  · exact r _ _ e
theorem tyOf_bt : ∀ {d : D} {t : Value}, tyOf d = some t → ∃ T, t = .type T ∧ onlyTypes (PySem.fastBuiltinMro T) = true := by
  intro d t h
  have k1 : onlyTypes (PySem.fastBuiltinMro "NoneType") = true := by decide +kernel
  have k2 : onlyTypes (PySem.fastBuiltinMro "bool") = true := by decide +kernel
  have k3 : onlyTypes (PySem.fastBuiltinMro "int") = true := by decide +kernel
  have k4 : onlyTypes (PySem.fastBuiltinMro "str") = true := by decide +kernel
  have k5 : onlyTypes (PySem.fastBuiltinMro "list") = true := by decide +kernel
  have k6 : onlyTypes (PySem.fastBuiltinMro "tuple") = true := by decide +kernel
  cases d <;> first | (cases h; exact ⟨_, rfl, k1⟩) | (cases h; exact ⟨_, rfl, k2⟩) | (cases h; exact ⟨_, rfl, k3⟩) | (cases h; exact ⟨_, rfl, k4⟩) | (cases h; exact ⟨_, rfl, k5⟩) | (cases h; exact ⟨_, rfl, k6⟩) | cases h
section
variable {X : Cx} {W : WX} {a : Expr} {f : Ev} {p p2 pos : Pos} {x : Str} {C : Addr} {tb : List (Addr × Bool)}
theorem t_iso {K : PySem.W.Frag} (hd : PySem.W.hasDictIn K C = true) (ht : PySem.W.typeIn K (.ref C) = some (.type "type")) (hk : IsoOk K C tb) {σ : L2.St} {H : Hp} {Q : VK} (h : T K W (isoE tb f) σ H Q) :
    tCB (rIsi K) (tCons (T K W f) (tCons (tC (.ref C)) tNil)) σ H Q := by
  refine t_e1 (r := fun v H1 Q => rIsi K [v, .ref C] H1 Q) (fun S H v dx Q hs r p => ?_) h
  have base : (∃ t, tyOf dx = some t) → PostO K S H (some (.bl false)) Q → rIsi K [v, .ref C] H Q := fun ⟨t, e⟩ p => by
    obtain ⟨T, rfl, hT⟩ := tyOf_bt e
    exact ⟨v, .ref C, .type T, .ref C, false, rfl, .own C, ty_ok hs r e, kit_bt hd ht hT, p.val hs (.bl false)⟩
  cases dx with
  | obj A fs =>
    have p : PostO K S H ((tb.lookup A).map .bl) Q := p
    cases e : tb.lookup A with
    | none => rw [e] at p; exact p.elim
    | some b =>
      rw [e] at p
      obtain ⟨o, hkit⟩ := hk A b e
      cases r with
      | obj h1 h2 => exact ⟨_, .ref C, .ref A, .ref C, b, rfl, .own C, .base (.ins (hs _ _ h1) o.cl o.ha o.hn o.ht o.hm), hkit, p.val hs (.bl b)⟩
  | frz ns => exact p.elim
  | non => exact base ⟨_, rfl⟩ p
  | bl b => exact base ⟨_, rfl⟩ p
  | int b => exact base ⟨_, rfl⟩ p
  | str b => exact base ⟨_, rfl⟩ p
  | lst b => exact base ⟨_, rfl⟩ p
  | tup b => exact base ⟨_, rfl⟩ p
  | new b => exact base ⟨_, rfl⟩ p
  | bor b => exact base ⟨_, rfl⟩ p
theorem d_iso (hm : X.mg "isinstance" = none) (hx : X.mg x = some (.ref C)) (hd : PySem.W.hasDictIn X.K C = true) (ht : PySem.W.typeIn X.K (.ref C) = some (.type "type")) (hk : IsoOk X.K C tb) (ha : PE X a (T X.K W f)) (hg : Gl X "isinstance" := by rfl) (hgT : Gl X x := by rfl)
    (hd2 : (x == ("__debug__" : Str)) = false := by decide)
    (h1 : starEach [a, .Name x p2] X.env = (false, eval a X.env) :: starEach [.Name x p2] X.env := by rfl)
    (h2 : starEach [.Name x p2] X.env = (false, eval (.Name x p2) X.env) :: starEach [] X.env := by rfl)
    (hpl : (backTo pos (starEach [.Name x p2] X.env)).any (·.1) = false := by rfl) :
    PE X (.Call (.Name "isinstance" p) [a, .Name x p2] [] pos) (T X.K W (isoE tb f)) :=
  PE.imp (pe_callB call_isi hg hm (by decide +kernel) (pa_cons ha (pa_cons (pe_glob (v := .ref C) hgT hx rfl hd2) pa_nil h2) h1) (by decide) (by decide) h1 hpl) fun _ _ _ h => t_iso hd ht hk h
end
end DL

end
section
set_option autoImplicit false
namespace DL
open PySem L2
open PySem.Spec PyProof.Rows

/-! ### sorted(xs), xs a list or a tuple of data -/
section
variable {prog : Program} {w : World} {A : Around} {E : Value → Shared → Prop} {s : Shared}
theorem collect_tup {l : Addr} {vs : List Value} {Q : List Value → Shared → Prop} (hl : IsTup s.heap l vs.toArray)
    (h : Q vs { s with heap := (s.heap.push (seqObj "list" #[] 0)).update s.heap.objs.size (Obj.mapSeq (· ++ vs.toArray)) }) (hsz : vs.length ≤ sizeLine) :
    wpAny (model prog w) A (collect (.ref l)) Q E s := by
  obtain ⟨o, ho, hc, n, hd⟩ := id hl
  unfold collect
  refine wpAny_bind (wpAny_runValue (codeAny_builtin entry_proto_collect' ?_))
  show wpAny _ _ (do again (.builtin "list.__iadd__" ⟨[← newList [], .ref l], []⟩)) _ _ s
  refine wpAny_bind (wpAny_newList (wpAny_pure ⟨Code.quiet_builtin _ (by decide +kernel), codeAny_builtin entry_list_iadd' ?_⟩))
  show wpAny _ _ (Builtin.List.listExtendWith (.ref s.heap.objs.size) (.ref l) (.ref s.heap.objs.size)) _ _ { s with heap := s.heap.push (seqObj "list" #[] 0) }
  unfold Builtin.List.listExtendWith
  have ho' : (s.heap.push (seqObj "list" #[] 0)).get? l = some o := Heap.get?_push_of_some _ ho
  refine wpAny_bind (wpAny_typeOf (T := "tuple") ⟨o, ho', hc⟩ ?_)
  have ht : (Value.type "tuple" == Value.type "tuple") = true := by rfl
  rw [if_pos (by rw [ht]; simp)]
  refine wpAny_bind (listItems_at ho' hd ?_)
  refine wpAny_bind (listItems_at (xs := #[]) (n := 0) (Heap.get?_push_size _ rfl) rfl ?_)
  rw [if_neg (by simp)]
  refine wpAny_bind (listUpdate_at (xs := #[]) (n := 0) (Heap.get?_push_size _ rfl) rfl ?_ (Nat.zero_le _) (by show (#[] ++ vs.toArray).size ≤ sizeLine + 1; simp only [Array.size_append, List.size_toArray, List.length_nil]; omega))
  refine wpAny_pure ?_
  show wpAny (model prog w) A (do
      let o ← load s.heap.objs.size
      match o.data with
      | .seq xs _ => pure xs.toList
      | _ => unsupported "internal:collect") Q E { s with heap := (s.heap.push (seqObj "list" #[] 0)).update s.heap.objs.size (Obj.mapSeq (· ++ vs.toArray)) }
  refine wpAny_bind (wpAny_load (get?_update_seq (Heap.get?_push_size _ rfl) _) ?_)
  show wpAny _ _ (pure ((#[] : Array Value) ++ vs.toArray).toList) Q E _
  rw [show ((#[] : Array Value) ++ vs.toArray).toList = vs by simp]
  exact wpAny_pure h
open PySem.W PySem.Calls in
theorem sorted_of_sortT {l : Addr} {vs : List Value} {kw : List (Str × Value)} {Q : Value → Shared → Prop} (hl : IsTup s.heap l vs.toArray) (hL : vs.length ≤ sizeLine) (ha1 : argsOk "sorted" ⟨[.ref l], kw⟩) (ha2 : ∀ x, argsOk "list.sort" ⟨[.ref x], kw⟩)
    (body : ∀ E' : Value → Shared → Prop, wpAny (model prog w) A.in1.in1 (Builtin.«list.sort» ⟨[.ref (s.heap.objs.size + 1)], kw⟩) (fun f s' => f = .done (.ret .none) ∧ Q (.ref (s.heap.objs.size + 1)) s') E' { s with heap := copyHeap s.heap vs }) :
    wpAny (model prog w) A (call (.builtin "sorted") [.ref l] kw) Q E s := by
  refine call_function_entry_kw kind_sorted plain_sorted entry_sorted ha1 ?_
  unfold Builtin.«sorted»
  refine wpAny_bind (m := checkCount "sorted" 1 1 _) (wpAny_pure ?_)
  refine wpAny_bind (collect_tup hl ?_ hL)
  refine wpAny_bind (wpAny_newList ?_ hL)
  have hsz : ((s.heap.push (seqObj "list" #[] 0)).update s.heap.objs.size (Obj.mapSeq (· ++ vs.toArray))).objs.size = s.heap.objs.size + 1 := by
    rw [Heap.size_update, size_push']
  show wpAny _ _ _ _ _ { s with heap := copyHeap s.heap vs }
  rw [hsz]
  refine wpAny_bind (wpAny_holding (wpAny_call_entry_kw slot_list_sort ⟨_, copyHeap_at s.heap vs, rfl⟩ entry_list_sort ?body (ha2 _)))
  case body =>
    show wpAny (model prog w) A.in1.in1 (Builtin.«list.sort» ⟨[.ref (s.heap.objs.size + 1)], kw⟩) _ _ _
    refine wpAny_mono (body _) (fun f s' hf => ?_) fun _ _ e => e
    obtain ⟨rfl, hq⟩ := hf
    exact ⟨_, rfl, wpAny_pure ⟨_, rfl, hq⟩⟩
open PySem.W PySem.Calls in
theorem sorted_dataT {β : Type} {enc : β → PyData} {R : Value → β → Prop} {bs : List β} {l : Addr} {vs : List Value} {Q : Value → Shared → Prop} (hl : IsTup s.heap l vs.toArray) (e : EachIs R vs bs) (er : EachIs (fun v b => ∃ as, Reads s.heap v (enc b) as) vs bs) (hal : AllAlike (bs.map enc)) (hk : Sortable (bs.map enc)) (hL : bs.length ≤ sizeLine)
    (hu : ∀ b, b ∈ bs → A.units + 2 + (enc b).depth < cLine) (h : ∀ out, out.length = bs.length → EachIs R out (bs.mergeSort (dataLe false enc)) → Q (.ref (s.heap.objs.size + 1)) { s with heap := sortedAll s.heap vs (List.toArray out) }) :
    wpAny (model prog w) A (call (.builtin "sorted") [.ref l]) Q E s := by
  have er' : EachIs (fun v b => ∃ as, Reads (sortingHeap (copyHeap s.heap vs) (s.heap.objs.size + 1) vs) v (enc b) as) vs bs := er.mono fun _ _ ⟨as, r⟩ => ⟨as, PyProof.Rows.Reads.keeps (fun _ _ => sorting_copy_old) r⟩
  exact sorted_of_sortT hl (by rw [e.length]; exact hL) (args_sorted1 _) (fun _ => args_list_sort _) fun _ => list_sort_vals (s := { s with heap := copyHeap s.heap vs }) (copyHeap_at s.heap vs)
    (SortsAt.data (s := { s with heap := sortingHeap (copyHeap s.heap vs) (s.heap.objs.size + 1) vs }) (each_map (R := fun v d => ∃ as, Reads (sortingHeap (copyHeap s.heap vs) (s.heap.objs.size + 1) vs) v d as) enc er') hal hk (bound_map hu)) (by rw [e.length]; exact hL)
    ⟨rfl, h _ (by rw [sortVals_length false rfl]; exact e.length) (sortVals_data false e er' hal)⟩
end
open PySem.W in
theorem each_vals : ∀ {zs : List (V × PyData)} {us : List Value}, Vals (zs.map Prod.fst) us → EachIs (fun u p => RelV p.1 u) us zs
  | [], _, r => by
    have r : Vals [] _ := r
    cases r
    exact .nil
  | z :: zs, _, r => by
    have r : Vals (z.1 :: zs.map Prod.fst) _ := r
    cases r with
    | cons h t => exact .cons h (each_vals t)
open PySem.W in
theorem vals_each : ∀ {zs : List (V × PyData)} {us : List Value}, EachIs (fun u p => RelV p.1 u) us zs → Vals (zs.map Prod.fst) us
  | _, _, .nil => .nil
  | _, _, .cons h t => .cons h (vals_each t)
open PySem.W in
theorem each_reads {X : Cx} {pins : List (Addr × Obj)} {σ : L2.St} {H : Hp} {s : Shared} (I : Inv X pins σ H s) : ∀ {zs : List (V × PyData)} {us : List Value}, (∀ p ∈ zs, Dp X.K H p.1 p.2) → EachIs (fun u p => RelV p.1 u) us zs → EachIs (fun u p => ∃ as, Reads s.heap u p.2 as) us zs
  | [], _, _, r => by cases r; exact .nil
  | z :: zs, _, h, r => by
    cases r with
    | cons r t => exact .cons (Dp.reads I z.2 z.1 _ (h z (List.mem_cons_self ..)) r) (each_reads I (fun p m => h p (List.mem_cons_of_mem _ m)) t)
/-- zs: the items, each with its data -/
def rSortD (K : PySem.W.Frag) : List V → Hp → VK → Prop := fun vs H Q => ∃ (a : Addr) (zs : List (V × PyData)), vs = [V.ref a] ∧ (SqL K H a (zs.map Prod.fst) ∨ SqT K H a (zs.map Prod.fst)) ∧ (∀ p ∈ zs, Dp K H p.1 p.2) ∧
  PySem.W.AllAlike (zs.map Prod.snd) ∧ PySem.W.Sortable (zs.map Prod.snd) ∧ (∀ p ∈ zs, p.2.depth ≤ 60) ∧ ∀ p, H p = none → Q (.ref p) (upd H p (.lst ((zs.mergeSort (PySem.W.dataLe false Prod.snd)).map Prod.fst)))
open PySem.W in
theorem cr_sortD {X : Cx} (hu : X.A.units + 64 < cLine) : CallR X (.builtin "sorted") (rSortD X.K) := by
  intro pins s σ H vs us Q I r h
  obtain ⟨a, zs, rfl, hs, hd, hal, hk, hdp, q⟩ := h
  rw [Vals.ref1 r]
  have fin : ∀ its : List Value, ∀ hz : (zs.map Prod.fst).length ≤ sizeLine, ∀ out : List Value, out.length = zs.length → EachIs (fun u p => RelV p.1 u) out (zs.mergeSort (dataLe false Prod.snd)) → EP X pins σ Q (.ref (s.heap.objs.size + 1)) { s with heap := sortedAll s.heap its (List.toArray out) } := by
    intro its hz out ho eo
    obtain ⟨ep, he'⟩ := PyProof.Rows.sortedAll_at s.heap its out.toArray
    have hlen : ((zs.mergeSort (dataLe false Prod.snd)).map Prod.fst).length ≤ sizeLine := by
      rw [List.length_map, List.length_mergeSort]
      rw [List.length_map] at hz
      exact hz
    exact ⟨.ref _, upd H (s.heap.objs.size + 1) (.lst ((zs.mergeSort (dataLe false Prod.snd)).map Prod.fst)), I.laid (t' := s.toks) (fun _ _ => PyProof.Rows.sortedAll_old) (Nat.le_succ _) ⟨hlen, out, ep, vals_each eo, he'⟩, rfl, q _ (I.hok.fresh (Nat.le_succ _))⟩
  have hu' : ∀ b, b ∈ zs → X.A.units + 2 + (Prod.snd b : PyData).depth < cLine := fun b hb => by have := hdp b hb; omega
  rcases hs with hs | hs
  · obtain ⟨its, rv, hl, hz⟩ := I.list hs
    have e := each_vals rv
    exact sorted_data hl.isList e (each_reads I hd e) hal hk (by rw [List.length_map] at hz; exact hz) hu' (fin its hz)
  · obtain ⟨its, rv, hl, hz⟩ := I.tuple hs
    have e := each_vals rv
    exact sorted_dataT hl e (each_reads I hd e) hal hk (by rw [List.length_map] at hz; exact hz) hu' (fin its hz)
/-- a list or a tuple, to be read -/
def seqAny : D → Option (List D)
  | .tup ds => some ds
  | d => d.items
theorem Rr.seq {K : PySem.W.Frag} {S H : Hp} {v : V} {d : D} {ds : List D} (hs : Same S H) (r : Rr K S H v d) (e : seqAny d = some ds) : ∃ a xs, v = .ref a ∧ (SqL K H a xs ∨ SqT K H a xs) ∧ RpAll K S xs ds := by
  cases d with
  | tup es =>
    cases e
    cases r with
    | tup h q => exact ⟨_, _, rfl, .inr (Same.seqT hs h), q⟩
  | lst es => obtain ⟨a, xs, h1, h2, h3⟩ := r.items e; exact ⟨a, xs, h1, .inl (SqL.of h2), h3⟩
  | new es => obtain ⟨a, xs, h1, h2, h3⟩ := r.items e; exact ⟨a, xs, h1, .inl (SqL.of h2), h3⟩
  | bor es => obtain ⟨a, xs, h1, h2, h3⟩ := r.items e; exact ⟨a, xs, h1, .inl (SqL.of h2), h3⟩
  | _ => cases e
def isTup1 : PyData → Bool
  | .tuple (_ :: _) => true
  | _ => false
def noTup : PyData → Bool
  | .none => false
  | .tuple _ => false
  | _ => true
def okSort (ds : List D) : Bool := D.pureAll ds && ((ds.all fun x => ds.all fun y => PySem.W.alike x.py y.py) && (((ds.all fun x => isTup1 x.py) || (ds.all fun x => noTup x.py)) && ds.all fun x => decide (x.py.depth ≤ 60)))
def sortL (ds : List D) : List D := ds.mergeSort (PySem.W.dataLe false D.py)
def sortD (x : D) : Option D := (seqAny x).bind fun ds => if okSort ds then some (.new (sortL ds)) else none
theorem zip_fst {K : PySem.W.Frag} {S : Hp} : ∀ {xs : List V} {ds : List D}, RpAll K S xs ds → ((xs.zip ds).map fun p => (p.1, p.2.py)).map Prod.fst = xs
  | _, _, .nil => rfl
  | _, _, .cons h r => by rw [List.zip_cons_cons, List.map_cons, List.map_cons, zip_fst r]
theorem zip_snd {K : PySem.W.Frag} {S : Hp} : ∀ {xs : List V} {ds : List D}, RpAll K S xs ds → ((xs.zip ds).map fun p => (p.1, p.2.py)).map Prod.snd = ds.map D.py
  | _, _, .nil => rfl
  | _, _, .cons h r => by rw [List.zip_cons_cons, List.map_cons, List.map_cons, zip_snd r, List.map_cons]
theorem zip_mem {K : PySem.W.Frag} {S : Hp} : ∀ {xs : List V} {ds : List D}, RpAll K S xs ds → ∀ p ∈ xs.zip ds, Rp K S p.1 p.2 ∧ p.2 ∈ ds
  | _, _, .nil, _, m => by cases m
  | _, _, .cons h r, p, m => by
    rw [List.zip_cons_cons] at m
    rcases List.mem_cons.mp m with rfl | m
    · exact ⟨h, List.mem_cons_self ..⟩
    · exact ⟨(zip_mem r p m).1, List.mem_cons_of_mem _ (zip_mem r p m).2⟩
theorem rpAll_of_zip {K : PySem.W.Frag} {S : Hp} : ∀ {zs : List (V × D)}, (∀ p ∈ zs, Rp K S p.1 p.2) → RpAll K S (zs.map Prod.fst) (zs.map Prod.snd)
  | [], _ => .nil
  | z :: zs, h => .cons (h z (List.mem_cons_self ..)) (rpAll_of_zip fun p m => h p (List.mem_cons_of_mem _ m))
theorem pureAll_mem : ∀ {ds : List D}, D.pureAll ds = true → ∀ d ∈ ds, d.pure = true
  | [], _, _, m => by cases m
  | d :: ds, h, e, m => by
    rw [D.pureAll, Bool.and_eq_true] at h
    rcases List.mem_cons.mp m with rfl | m
    · exact h.1
    · exact pureAll_mem h.2 e m
open PySem.W in
theorem sortD_ok {K : PySem.W.Frag} : ServesC1 K sortD (rSortD K) := by
  intro S H v dx Q hs r p
  unfold sortD at p
  cases e : seqAny dx with
  | none => rw [e] at p; exact p.elim
  | some ds =>
    rw [e] at p
    obtain ⟨a, xs, rfl, hq, rA⟩ := r.seq hs e
    simp only [Option.bind_some] at p
    by_cases ok : okSort ds = true
    · rw [if_pos ok] at p
      unfold okSort at ok
      simp only [Bool.and_eq_true, Bool.or_eq_true, List.all_eq_true, decide_eq_true_eq] at ok
      obtain ⟨hp, hal, hk, hdp⟩ := ok
      -- the items with their data, and with what they are
      have em : ((xs.zip ds).mergeSort (dataLe false fun p => p.2.py)).map (fun p : V × D => (p.1, p.2.py)) = ((xs.zip ds).map fun p => (p.1, p.2.py)).mergeSort (dataLe false Prod.snd) :=
        sort_maps _ fun _ _ _ _ => rfl
      have ed : ((xs.zip ds).mergeSort (dataLe false fun p => p.2.py)).map (fun p : V × D => p.2) = sortL ds := by
        have h1 : ((xs.zip ds).map fun p : V × D => p.2) = ds := List.map_snd_zip (by rw [rA.length]; exact Nat.le_refl _)
        have h2 : ((xs.zip ds).mergeSort (dataLe false fun p => p.2.py)).map (fun p : V × D => p.2) = ((xs.zip ds).map fun p : V × D => p.2).mergeSort (dataLe false D.py) := sort_maps _ fun _ _ _ _ => rfl
        rw [h2, h1]; rfl
      refine ⟨a, (xs.zip ds).map fun p => (p.1, p.2.py), rfl, by rw [zip_fst rA]; exact hq, fun q m => ?_, ?_, ?_, fun q m => ?_, fun q n => ?_⟩
      · obtain ⟨z, mz, rfl⟩ := List.mem_map.mp m
        obtain ⟨z1, z2⟩ := zip_mem rA z mz
        exact Rp.dp hs z1 (pureAll_mem hp _ z2)
      · rw [zip_snd rA]
        intro d hd d' hd'
        obtain ⟨x, mx, rfl⟩ := List.mem_map.mp hd
        obtain ⟨y, my, rfl⟩ := List.mem_map.mp hd'
        exact hal x mx y my
      · rw [zip_snd rA]
        rcases hk with hk | hk
        · refine .inl fun d hd => ?_
          obtain ⟨x, mx, rfl⟩ := List.mem_map.mp hd
          have := hk x mx
          unfold isTup1 at this
          split at this
          · rename_i y ys e
            exact ⟨y, ys, e⟩
          · cases this
        · refine .inr fun d hd => ?_
          obtain ⟨x, mx, rfl⟩ := List.mem_map.mp hd
          have := hk x mx
          unfold noTup at this
          split at this
          · cases this
          · cases this
          · rename_i n1 n2
            exact ⟨n1, n2⟩
      · obtain ⟨z, mz, rfl⟩ := List.mem_map.mp m
        exact hdp _ (zip_mem rA z mz).2
      · rw [← em, List.map_map]
        have rr : RpAll K S (((xs.zip ds).mergeSort (dataLe false fun p => p.2.py)).map Prod.fst) (((xs.zip ds).mergeSort (dataLe false fun p => p.2.py)).map Prod.snd) :=
          rpAll_of_zip fun p m => (zip_mem rA p (List.mem_mergeSort.mp m)).1
        have e3 : ((xs.zip ds).mergeSort (dataLe false fun p => p.2.py)).map Prod.snd = sortL ds := ed
        rw [e3] at rr
        exact p.new hs rr q n
    · rw [if_neg ok] at p; exact p.elim
section
variable {X : Cx} {W : WX} {a b e : Expr} {fa fb f : Ev} {pos p : Pos}
theorem d_sorted (hu : X.A.units + 64 < cLine) (hm : X.mg "sorted" = none) (ha : PE X a (T X.K W f)) (hg : Gl X "sorted" := by rfl)
    (h1 : starEach [a] X.env = (false, eval a X.env) :: starEach [] X.env := by rfl) (hpl : (backTo pos (starEach [] X.env)).any (·.1) = false := by rfl) : PE X (.Call (.Name "sorted" p) [a] [] pos) (T X.K W (e1 sortD f)) :=
  d_callB1 (cr_sortD hu) sortD_ok hg hm (by decide +kernel) ha h1 (by decide) (by decide) hpl
end
end DL

end
section
set_option autoImplicit false
namespace DL
open PySem L2
open PySem.Spec PyProof.Rows PySem.SeqAt

theorem PE.or {X : Cx} {e : Expr} {t t' : TE} (h : PE X e t) (h' : PE X e t') : PE X e (fun σ H Q => t σ H Q ∨ t' σ H Q) := ⟨fun pins s σ H Q I q => q.elim (fun q => h.run pins s σ H Q I q) (fun q => h'.run pins s σ H Q I q)⟩

/-! ### in, not in: data in a list or a tuple of data -/
mutual
theorem py_plain : ∀ d : D, d.py.plain = true
  | .non => by rw [D.py]; rfl
  | .bl _ => by rw [D.py]; rfl
  | .int _ => by rw [D.py]; rfl
  | .str _ => by rw [D.py]; rfl
  | .lst ds => by rw [D.py, PyData.plain]; exact pyAll_plain ds
  | .tup ds => by rw [D.py, PyData.plain]; exact pyAll_plain ds
  | .new ds => by rw [D.py, PyData.plain]; exact pyAll_plain ds
  | .bor ds => by rw [D.py, PyData.plain]; exact pyAll_plain ds
  | .frz ns => by
    rw [D.py, PyData.plain]
    induction ns with
    | nil => rfl
    | cons n ns ih => rw [List.map_cons, PyData.plainAll, ih]; rfl
  | .obj _ _ => by rw [D.py]; rfl
theorem pyAll_plain : ∀ ds : List D, PyData.plainAll (D.pyAll ds) = true
  | [] => by rw [D.pyAll]; rfl
  | d :: ds => by rw [D.pyAll, PyData.plainAll, py_plain d, pyAll_plain ds]; rfl
end
def rInA (K : PySem.W.Frag) (neg : Bool) : R2 := fun x y H Q => ∃ (d : PyData) (ds : List PyData), Dp K H x d ∧ (Dp K H y (.list ds) ∨ Dp K H y (.tuple ds)) ∧ PyData.plainAll ds = true ∧ d.plain = true ∧ d.depth ≤ 60 ∧
  Q (.bl (if neg then !(ds.any fun z => PyData.eqv z d) else ds.any fun z => PyData.eqv z d)) H
theorem op_inA {X : Cx} (hu : X.A.units + 64 < cLine) : OpR X (compareOp .In) (rInA X.K false) := by
  intro pins s σ H x y u v Q I rx ry h
  obtain ⟨d, ds, hx, hy, hp, hd, hdp, q⟩ := h
  obtain ⟨bs, r1⟩ := Dp.reads I d x u hx rx
  rcases hy with hy | hy
  · obtain ⟨as, r2⟩ := Dp.reads I _ y v hy ry
    exact in_list_data r2 r1 hp hd (by omega) ⟨.bl _, H, I, rfl, q⟩
  · obtain ⟨as, r2⟩ := Dp.reads I _ y v hy ry
    exact in_tuple_data r2 r1 hp hd (by omega) ⟨.bl _, H, I, rfl, q⟩
theorem op_notInA {X : Cx} (hu : X.A.units + 64 < cLine) : OpR X (compareOp .NotIn) (rInA X.K true) := by
  intro pins s σ H x y u v Q I rx ry h
  obtain ⟨d, ds, hx, hy, hp, hd, hdp, q⟩ := h
  obtain ⟨bs, r1⟩ := Dp.reads I d x u hx rx
  rcases hy with hy | hy
  · obtain ⟨as, r2⟩ := Dp.reads I _ y v hy ry
    exact notIn_list_data r2 r1 hp hd (by omega) ⟨.bl _, H, I, rfl, q⟩
  · obtain ⟨as, r2⟩ := Dp.reads I _ y v hy ry
    exact notIn_tuple_data r2 r1 hp hd (by omega) ⟨.bl _, H, I, rfl, q⟩
def inL (x : D) (ds : List D) : Bool := ds.any fun z => PyData.eqv z.py x.py
def inD0 (neg : Bool) (x y : D) : Option D := (seqAny y).bind fun ds => if x.pure && (D.pureAll ds && decide (x.py.depth ≤ 60)) then some (.bl (if neg then !inL x ds else inL x ds)) else none
abbrev inD := inD0 false
abbrev notInD := inD0 true
theorem pyAll_any (p : PyData → Bool) : ∀ ds : List D, (D.pyAll ds).any p = ds.any fun z => p z.py
  | [] => by rw [D.pyAll]; rfl
  | d :: ds => by rw [D.pyAll, List.any_cons, List.any_cons, pyAll_any p ds]
theorem inD_ok {K : PySem.W.Frag} {neg : Bool} : Serves2 K (inD0 neg) (rInA K neg) := by
  intro S H v w dx dy Q hs r1 r2 p
  unfold inD0 at p
  cases e : seqAny dy with
  | none => rw [e] at p; exact p.elim
  | some ds =>
    rw [e] at p
    simp only [Option.bind_some] at p
    by_cases ok : (dx.pure && (D.pureAll ds && decide (dx.py.depth ≤ 60))) = true
    · rw [if_pos ok] at p
      simp only [Bool.and_eq_true, decide_eq_true_eq] at ok
      obtain ⟨h1, h2, h3⟩ := ok
      have hb : (if neg then !((D.pyAll ds).any fun z => PyData.eqv z dx.py) else (D.pyAll ds).any fun z => PyData.eqv z dx.py) = (if neg then !inL dx ds else inL dx ds) := by
        unfold inL
        rw [pyAll_any]
      refine ⟨dx.py, D.pyAll ds, r1.dp hs h1, ?_, pyAll_plain ds, py_plain dx, h3, by rw [hb]; exact p.val hs (.bl _)⟩
      cases dy with
      | tup es => cases e; exact .inr (by have := r2.dp hs (by rw [D.pure]; exact h2); rwa [D.py] at this)
      | lst es => cases e; exact .inl (by have := r2.dp hs (by rw [D.pure]; exact h2); rwa [D.py] at this)
      | new es => cases e; exact .inl (by have := r2.dp hs (by rw [D.pure]; exact h2); rwa [D.py] at this)
      | bor es => cases e; exact .inl (by have := r2.dp hs (by rw [D.pure]; exact h2); rwa [D.py] at this)
      | _ => cases e
    · rw [if_neg ok] at p; exact p.elim
section
variable {X : Cx} {W : WX} {a b e : Expr} {fa fb f : Ev} {pos p : Pos}
theorem d_in (hu : X.A.units + 64 < cLine) (ha : PE X a (T X.K W fa)) (hb : PE X b (T X.K W fb)) (hm : behindInMarks .In b = false := by with_unfolding_all rfl) : PE X (.Compare a [.In] [b] pos) (T X.K W (e2 inD fa fb)) := d_cmp (op_inA hu) inD_ok hm ha hb
theorem d_notIn (hu : X.A.units + 64 < cLine) (ha : PE X a (T X.K W fa)) (hb : PE X b (T X.K W fb)) (hm : behindInMarks .NotIn b = false := by with_unfolding_all rfl) : PE X (.Compare a [.NotIn] [b] pos) (T X.K W (e2 notInD fa fb)) := d_cmp (op_notInA hu) inD_ok hm ha hb
theorem t_in (hu : X.A.units + 64 < cLine) (ha : PE X a (T X.K W fa)) (hb : PE X b (T X.K W fb)) (hm : behindInMarks .In b = false := by with_unfolding_all rfl) : PT X (.Compare a [.In] [b] pos) (TB X.K W (tst0 (e2 inD fa fb))) := t_cmp (op_inA hu) inD_ok hm ha hb
theorem t_notIn (hu : X.A.units + 64 < cLine) (ha : PE X a (T X.K W fa)) (hb : PE X b (T X.K W fb)) (hm : behindInMarks .NotIn b = false := by with_unfolding_all rfl) : PT X (.Compare a [.NotIn] [b] pos) (TB X.K W (tst0 (e2 notInD fa fb))) := t_cmp (op_notInA hu) inD_ok hm ha hb
end

/-! ### sum, max, min of a list or a tuple of ints -/
def rSumT (K : PySem.W.Frag) : List V → Hp → VK → Prop := fun vs H Q => ∃ (a : Addr) (ns : List Int), vs = [V.ref a] ∧ SqT K H a (ns.map V.int) ∧ Q (.int ns.sum) H
theorem cr_sumT {X : Cx} (hc : X.calm = true) : CallR X (.builtin "sum") (rSumT X.K) := by
  intro pins s σ H vs us Q I r h
  obtain ⟨a, ns, rfl, hs, q⟩ := h
  obtain ⟨its, rv, hl, _⟩ := I.tuple hs
  rw [Vals.ref1 r]
  have hi := rv.ints
  have hl : s.heap.IsTuple a its.toArray := hl
  obtain ⟨xs, hx⟩ := hi.allInts.items
  have hn : numsOf its.toArray.toList = ns := by rw [show its.toArray.toList = its from rfl, hi.numsOf]
  rw [hx] at hl hn
  rw [nums_intItems] at hn
  refine PySem.W.ktm_sumG (I.ok.hd hc) hl fun h' tk t' hk => ?_
  have e : preSum (numAt xs) xs.size = ns.sum := by
    rw [preSum_eq, List.take_of_length_le (by simp), hn]
  rw [e]
  exact ⟨.int _, H, I.kept hk, ⟨_, rfl⟩, q⟩
def rSumA (K : PySem.W.Frag) : List V → Hp → VK → Prop := fun xs H Q => rSum K xs H Q ∨ rSumT K xs H Q
theorem cr_sumA {X : Cx} (hc : X.calm = true) : CallR X (.builtin "sum") (rSumA X.K) := (cr_sum hc).or (cr_sumT hc)
def sumA (x : D) : Option D := (seqAny x).bind fun ds => (D.asInts ds).map fun ns => .int ns.sum
theorem Rr.ints {K : PySem.W.Frag} {S H : Hp} {v : V} {d : D} {ds : List D} {ns : List Int} (hs : Same S H) (r : Rr K S H v d) (e : seqAny d = some ds) (e2 : D.asInts ds = some ns) : ∃ a, v = .ref a ∧ (SqL K H a (ns.map V.int) ∨ SqT K H a (ns.map V.int)) := by
  obtain ⟨a, xs, rfl, h, q⟩ := r.seq hs e
  rw [asInts_of e2] at q
  rw [q.ints] at h
  exact ⟨a, rfl, h⟩
theorem sumA_ok {K : PySem.W.Frag} : ServesC1 K sumA (rSumA K) := by
  intro S H v dx Q hs r p
  unfold sumA at p
  cases e : seqAny dx with
  | none => rw [e] at p; exact p.elim
  | some ds =>
    rw [e] at p
    simp only [Option.bind_some] at p
    cases e2 : D.asInts ds with
    | none => rw [e2] at p; exact p.elim
    | some ns =>
      rw [e2] at p
      obtain ⟨a, rfl, h | h⟩ := r.ints hs e e2
      · exact .inl ⟨a, ns, rfl, h, p.val hs (.int _)⟩
      · exact .inr ⟨a, ns, rfl, h, p.val hs (.int _)⟩
/-! max, min -/
def rMaxS (K : PySem.W.Frag) : List V → Hp → VK → Prop := fun vs H Q => ∃ (a : Addr) (n : Int) (ns : List Int), vs = [V.ref a] ∧ (SqL K H a ((n :: ns).map V.int) ∨ SqT K H a ((n :: ns).map V.int)) ∧ Q (.int (ns.foldl max n)) H
def rMinS (K : PySem.W.Frag) : List V → Hp → VK → Prop := fun vs H Q => ∃ (a : Addr) (n : Int) (ns : List Int), vs = [V.ref a] ∧ (SqL K H a ((n :: ns).map V.int) ∨ SqT K H a ((n :: ns).map V.int)) ∧ Q (.int (ns.foldl min n)) H
theorem reads_ints {h : Heap} : ∀ {vs : List Value} {ns : List Int}, IntsAre vs ns → ∃ as, ReadsAll h vs (ns.map .int) as
  | _, [], r => by cases r; exact ⟨[], .nil⟩
  | _, n :: ns, r => by
    cases r with
    | cons _ e t =>
      obtain ⟨as, q⟩ := reads_ints t
      exact ⟨_, .cons (.int _ _) q⟩
theorem reads_int_inv {h : Heap} {v : Value} {n : Int} {as : List Addr} (r : Reads h v (.int n) as) : ∃ t, v = .int n t := by
  cases r
  exact ⟨_, rfl⟩
theorem alike_intsAll (ns : List Int) : PySem.W.AlikeAll (ns.map .int) := by
  refine ⟨fun d hd d' hd' => ?_, fun d hd => ?_⟩
  · obtain ⟨x, _, rfl⟩ := List.mem_map.mp hd
    obtain ⟨y, _, rfl⟩ := List.mem_map.mp hd'
    simp [PySem.W.alike]
  · obtain ⟨x, _, rfl⟩ := List.mem_map.mp hd
    exact fun z => by cases z
theorem cr_maxS {X : Cx} (hc : X.calm = true) (hu : X.A.units + 64 < cLine) : CallR X (.builtin "max") (rMaxS X.K) := by
  intro pins s σ H vs us Q I r h
  obtain ⟨a, n, ns, rfl, hs, q⟩ := h
  rw [Vals.ref1 r]
  have hd : X.A.units + 1 + PyData.depthAll ((n :: ns).map .int) < cLine := by rw [PySem.W.depth_ints]; omega
  rcases hs with hs | hs
  · obtain ⟨its, rv, hl, _⟩ := I.list hs
    obtain ⟨as, hr⟩ := reads_ints (h := s.heap) rv.ints
    refine PySem.W.max_list_data (I.ok.hd hc) hl.isList hr (alike_intsAll (n :: ns)) hd fun i v h' tk bs _ r2 hk => ?_
    rw [PySem.W.maxD_ints] at r2
    obtain ⟨t, rfl⟩ := reads_int_inv r2
    exact ⟨.int _, H, I.kept hk, ⟨_, rfl⟩, q⟩
  · obtain ⟨its, rv, hl, _⟩ := I.tuple hs
    obtain ⟨as, hr⟩ := reads_ints (h := s.heap) rv.ints
    refine PySem.W.max_tuple_data (I.ok.hd hc) hl hr (alike_intsAll (n :: ns)) hd fun i v h' tk bs _ r2 hk => ?_
    rw [PySem.W.maxD_ints] at r2
    obtain ⟨t, rfl⟩ := reads_int_inv r2
    exact ⟨.int _, H, I.kept hk, ⟨_, rfl⟩, q⟩
theorem cr_minS {X : Cx} (hc : X.calm = true) (hu : X.A.units + 64 < cLine) : CallR X (.builtin "min") (rMinS X.K) := by
  intro pins s σ H vs us Q I r h
  obtain ⟨a, n, ns, rfl, hs, q⟩ := h
  rw [Vals.ref1 r]
  have hd : X.A.units + 1 + PyData.depthAll ((n :: ns).map .int) < cLine := by rw [PySem.W.depth_ints]; omega
  rcases hs with hs | hs
  · obtain ⟨its, rv, hl, _⟩ := I.list hs
    obtain ⟨as, hr⟩ := reads_ints (h := s.heap) rv.ints
    refine PySem.W.min_list_data (I.ok.hd hc) hl.isList hr (alike_intsAll (n :: ns)) hd fun i v h' tk bs _ r2 hk => ?_
    rw [PySem.W.minD_ints] at r2
    obtain ⟨t, rfl⟩ := reads_int_inv r2
    exact ⟨.int _, H, I.kept hk, ⟨_, rfl⟩, q⟩
  · obtain ⟨its, rv, hl, _⟩ := I.tuple hs
    obtain ⟨as, hr⟩ := reads_ints (h := s.heap) rv.ints
    refine PySem.W.min_tuple_data (I.ok.hd hc) hl hr (alike_intsAll (n :: ns)) hd fun i v h' tk bs _ r2 hk => ?_
    rw [PySem.W.minD_ints] at r2
    obtain ⟨t, rfl⟩ := reads_int_inv r2
    exact ⟨.int _, H, I.kept hk, ⟨_, rfl⟩, q⟩
def foldI (g : Int → Int → Int) : List Int → Option D
  | [] => none
  | n :: ns => some (.int (ns.foldl g n))
def maxA (x : D) : Option D := (seqAny x).bind fun ds => (D.asInts ds).bind (foldI max)
def minA (x : D) : Option D := (seqAny x).bind fun ds => (D.asInts ds).bind (foldI min)
theorem maxA_ok {K : PySem.W.Frag} : ServesC1 K maxA (rMaxS K) := by
  intro S H v dx Q hs r p
  unfold maxA at p
  cases e : seqAny dx with
  | none => rw [e] at p; exact p.elim
  | some ds =>
    rw [e] at p
    simp only [Option.bind_some] at p
    cases e2 : D.asInts ds with
    | none => rw [e2] at p; exact p.elim
    | some ns =>
      rw [e2] at p
      obtain ⟨a, rfl, h⟩ := r.ints hs e e2
      cases ns with
      | nil => exact p.elim
      | cons n ns => exact ⟨a, n, ns, rfl, h, p.val hs (.int _)⟩
theorem minA_ok {K : PySem.W.Frag} : ServesC1 K minA (rMinS K) := by
  intro S H v dx Q hs r p
  unfold minA at p
  cases e : seqAny dx with
  | none => rw [e] at p; exact p.elim
  | some ds =>
    rw [e] at p
    simp only [Option.bind_some] at p
    cases e2 : D.asInts ds with
    | none => rw [e2] at p; exact p.elim
    | some ns =>
      rw [e2] at p
      obtain ⟨a, rfl, h⟩ := r.ints hs e e2
      cases ns with
      | nil => exact p.elim
      | cons n ns => exact ⟨a, n, ns, rfl, h, p.val hs (.int _)⟩
/-! all, any: of a list (no law asks them of a tuple) -/
section
variable {X : Cx} {W : WX} {a b e : Expr} {fa fb f : Ev} {pos p : Pos}
theorem d_sumA (hc : X.calm = true) (hm : X.mg "sum" = none) (ha : PE X a (T X.K W f)) (hg : Gl X "sum" := by rfl)
    (h1 : starEach [a] X.env = (false, eval a X.env) :: starEach [] X.env := by rfl) (hpl : (backTo pos (starEach [] X.env)).any (·.1) = false := by rfl) : PE X (.Call (.Name "sum" p) [a] [] pos) (T X.K W (e1 sumA f)) :=
  d_callB1 (cr_sumA hc) sumA_ok hg hm (by decide +kernel) ha h1 (by decide) (by decide) hpl
theorem d_maxA (hc : X.calm = true) (hu : X.A.units + 64 < cLine) (hm : X.mg "max" = none) (ha : PE X a (T X.K W f)) (hg : Gl X "max" := by rfl)
    (h1 : starEach [a] X.env = (false, eval a X.env) :: starEach [] X.env := by rfl) (hpl : (backTo pos (starEach [] X.env)).any (·.1) = false := by rfl) : PE X (.Call (.Name "max" p) [a] [] pos) (T X.K W (e1 maxA f)) :=
  d_callB1 (cr_maxS hc hu) maxA_ok hg hm (by decide +kernel) ha h1 (by decide) (by decide) hpl
theorem d_minA (hc : X.calm = true) (hu : X.A.units + 64 < cLine) (hm : X.mg "min" = none) (ha : PE X a (T X.K W f)) (hg : Gl X "min" := by rfl)
    (h1 : starEach [a] X.env = (false, eval a X.env) :: starEach [] X.env := by rfl) (hpl : (backTo pos (starEach [] X.env)).any (·.1) = false := by rfl) : PE X (.Call (.Name "min" p) [a] [] pos) (T X.K W (e1 minA f)) :=
  d_callB1 (cr_minS hc hu) minA_ok hg hm (by decide +kernel) ha h1 (by decide) (by decide) hpl
end

/-! ### xs.index(k), k an int in a list of ints; xs.count(k) of a list of data -/
def rIdxI (K : PySem.W.Frag) : V → List V → Hp → VK → Prop := fun x xs H Q => ∃ (a : Addr) (ns : List Int) (k : Int), x = V.ref a ∧ xs = [.int k] ∧ SqL K H a (ns.map V.int) ∧ k ∈ ns ∧ Q (.int (ns.idxOf k : Nat)) H
theorem mt_idxI {X : Cx} : MtR X "list.index" (rIdxI X.K) := by
  intro pins s σ H x xs v us Q I rx rxs h
  obtain ⟨a, ns, k, rfl, rfl, hs, hk, q⟩ := h
  cases rx
  cases rxs with
  | cons ry rt =>
    cases rt
    obtain ⟨t, rfl⟩ := ry
    obtain ⟨its, rv, hl, hz⟩ := I.list hs
    rw [List.length_map] at hz
    exact PySem.SeqAt.list_index_ints hl.isList rv.ints hz hk ⟨.int _, H, I.tok _, ⟨_, rfl⟩, q⟩
def rCntA (K : PySem.W.Frag) : V → List V → Hp → VK → Prop := fun x xs H Q => ∃ (y : V) (d : PyData) (ds : List PyData), xs = [y] ∧ Dp K H x (.list ds) ∧ Dp K H y d ∧ PyData.plainAll ds = true ∧ d.plain = true ∧ d.depth ≤ 60 ∧ Q (.int ((ds.countP fun z => PyData.eqv z d : Nat) : Int)) H
theorem mt_cntA {X : Cx} (hu : X.A.units + 64 < cLine) : MtR X "list.count" (rCntA X.K) := by
  intro pins s σ H x xs v us Q I rx rxs h
  obtain ⟨y, d, ds, rfl, hx, hy, hp, hd, hdp, q⟩ := h
  cases rxs with
  | cons ry rt =>
    cases rt
    obtain ⟨bs, r1⟩ := Dp.reads I d y _ hy ry
    obtain ⟨as, r2⟩ := Dp.reads I _ x v hx rx
    cases r2 with
    | list h1 h2 h3 h4 => exact PySem.SeqAt.count_list_data ⟨_, h1, h2, _, h3⟩ h4 r1 hp hd (by omega) ⟨.int _, H, I.tok _, ⟨_, rfl⟩, q⟩
section
variable {X : Cx} {W : WX} {o e : Expr} {fo fe f : Ev} {pos p apos : Pos}
def listB (d : D) (r : Res D) : Res D := match d.items with
  | some _ => r
  | none => .st
def mL1E (g : D → D → Option D) (fo fe : Ev) : Ev := fun ρ => (fo ρ).bind fun d => listB d ((fe ρ).bind fun y => ofO (g d y))
/-- a method of a list with one argument -/
theorem d_bmL1 {name : Str} {id : String} {r : V → List V → Hp → VK → Prop} {g : D → D → Option D} (slot : PySem.Slot "list" name id) (hty : typeOf (.builtin id) = pure (.type "method_descriptor")) (hm : MtR X id r)
    (hg : ∀ (S H : Hp) (v w : V) (dx dy : D) (Q : VK), Same S H → Rr X.K S H v dx → Rr X.K S H w dy → PostO X.K S H (g dx dy) Q → r v [w] H Q)
    (ho : PE X o (T X.K W fo)) (he : PE X e (T X.K W fe))
    (hbase : attributeBase o name X.env (eval o X.env) = eval o X.env := by rfl)
    (hfew : ((backTo pos (starEach [e] X.env)).all (fun x => !x.1) && (backToKw pos (keywordEach [] X.env)).all (fun x => x.1.isSome)
      && decide ([e].length + ([] : List Keyword).length + (if ([] : List Keyword).isEmpty then 0 else 1) < 30)) = true := by rfl)
    (hline : (apos.endLine == pos.line) = true := by rfl) (hs : starEach [e] X.env = (false, eval e X.env) :: starEach [] X.env := by rfl) (hplain : (backTo pos (starEach [] X.env)).any (·.1) = false := by rfl) :
    PE X (.Call (.Attribute o name apos) [e] [] pos) (T X.K W (mL1E g fo fe)) :=
  PE.imp (pe_bm PySem.F.plainAttrs_list slot hty hm ho (pa_cons he pa_nil hs) hbase hfew hline hs hplain) fun σ H Q h => by
    obtain ⟨S0, H0, S, ρ, R, p⟩ := h
    refine ⟨S0, H0, S, ρ, R, ?_⟩
    unfold mL1E at p
    cases eo : fo ρ with
    | err x => rw [eo] at p; exact p
    | st => rw [eo] at p; exact p
    | ok d =>
      rw [eo] at p
      simp only [bind_ok] at p
      intro v S1 H1 e1 r1
      have p1 := p.ext e1
      unfold listB at p1
      cases ei : d.items with
      | none => rw [ei] at p1; exact p1.elim
      | some ds =>
        rw [ei] at p1
        obtain ⟨a, xs, rfl, ha, q⟩ := (r1.rr e1.sh).items ei
        refine ⟨.inl ⟨rfl, xs, SqL.of ha⟩, S0, H0, S1, ρ, R.ext e1, ?_⟩
        cases ee : fe ρ with
        | err x => simp only [ee, bind_err] at p1; exact p1
        | st => simp only [ee, bind_st] at p1; exact p1
        | ok dy =>
          simp only [ee, bind_ok] at p1
          intro w S2 H2 e2 r2
          exact hg S2 H2 _ w d dy Q e2.sh ((r1.rr e1.sh).mono e2.ss e2.hh) (r2.rr e2.sh) (PostD.o (p1.ext e2))
def idxI (x y : D) : Option D := match y with
  | .int k => x.items.bind fun ds => (D.asInts ds).bind fun ns => if k ∈ ns then some (.int (ns.idxOf k : Nat)) else none
  | _ => none
def cntA (x y : D) : Option D := x.items.bind fun ds => if y.pure && (D.pureAll ds && decide (y.py.depth ≤ 60)) then some (.int ((ds.countP fun z => PyData.eqv z.py y.py : Nat) : Int)) else none
theorem pyAll_countP (p : PyData → Bool) : ∀ ds : List D, (D.pyAll ds).countP p = ds.countP fun z => p z.py
  | [] => by rw [D.pyAll]; rfl
  | d :: ds => by rw [D.pyAll, List.countP_cons, List.countP_cons, pyAll_countP p ds]
theorem d_index (ho : PE X o (T X.K W fo)) (he : PE X e (T X.K W fe)) (hbase : attributeBase o "index" X.env (eval o X.env) = eval o X.env := by rfl)
    (hfew : ((backTo pos (starEach [e] X.env)).all (fun x => !x.1) && (backToKw pos (keywordEach [] X.env)).all (fun x => x.1.isSome)
      && decide ([e].length + ([] : List Keyword).length + (if ([] : List Keyword).isEmpty then 0 else 1) < 30)) = true := by rfl)
    (hline : (apos.endLine == pos.line) = true := by rfl) (hs : starEach [e] X.env = (false, eval e X.env) :: starEach [] X.env := by rfl) (hplain : (backTo pos (starEach [] X.env)).any (·.1) = false := by rfl) :
    PE X (.Call (.Attribute o "index" apos) [e] [] pos) (T X.K W (mL1E idxI fo fe)) :=
  d_bmL1 PySem.F.slot_list_index PySem.F.type_list_index mt_idxI (fun S H v w dx dy Q hs r1 r2 p => by
    unfold idxI at p
    split at p
    · rename_i k
      cases r2
      cases e : dx.items with
      | none => rw [e] at p; exact p.elim
      | some ds =>
        rw [e] at p
        simp only [Option.bind_some] at p
        cases e2 : D.asInts ds with
        | none => rw [e2] at p; exact p.elim
        | some ns =>
          rw [e2] at p
          simp only [Option.bind_some] at p
          by_cases hk : k ∈ ns
          · rw [if_pos hk] at p
            obtain ⟨a, xs, rfl, ha, q⟩ := r1.items e
            rw [asInts_of e2] at q
            rw [q.ints] at ha
            exact ⟨a, ns, k, rfl, rfl, SqL.of ha, hk, p.val hs (.int _)⟩
          · rw [if_neg hk] at p; exact p.elim
    · exact p.elim) ho he hbase hfew hline hs hplain
theorem d_count (hu : X.A.units + 64 < cLine) (ho : PE X o (T X.K W fo)) (he : PE X e (T X.K W fe)) (hbase : attributeBase o "count" X.env (eval o X.env) = eval o X.env := by rfl)
    (hfew : ((backTo pos (starEach [e] X.env)).all (fun x => !x.1) && (backToKw pos (keywordEach [] X.env)).all (fun x => x.1.isSome)
      && decide ([e].length + ([] : List Keyword).length + (if ([] : List Keyword).isEmpty then 0 else 1) < 30)) = true := by rfl)
    (hline : (apos.endLine == pos.line) = true := by rfl) (hs : starEach [e] X.env = (false, eval e X.env) :: starEach [] X.env := by rfl) (hplain : (backTo pos (starEach [] X.env)).any (·.1) = false := by rfl) :
    PE X (.Call (.Attribute o "count" apos) [e] [] pos) (T X.K W (mL1E cntA fo fe)) :=
  d_bmL1 PySem.F.slot_list_count PySem.F.type_list_count (mt_cntA hu) (fun S H v w dx dy Q hs r1 r2 p => by
    unfold cntA at p
    cases e : dx.items with
    | none => rw [e] at p; exact p.elim
    | some ds =>
      rw [e] at p
      simp only [Option.bind_some] at p
      by_cases ok : (dy.pure && (D.pureAll ds && decide (dy.py.depth ≤ 60))) = true
      · rw [if_pos ok] at p
        simp only [Bool.and_eq_true, decide_eq_true_eq] at ok
        obtain ⟨h1, h2, h3⟩ := ok
        rw [← pyAll_countP (fun z => PyData.eqv z dy.py)] at p
        refine ⟨w, dy.py, D.pyAll ds, rfl, ?_, r2.dp hs h1, pyAll_plain ds, py_plain dy, h3, p.val hs (.int _)⟩
        cases dx with
        | lst es => cases e; have := r1.dp hs (by rw [D.pure]; exact h2); rwa [D.py] at this
        | new es => cases e; have := r1.dp hs (by rw [D.pure]; exact h2); rwa [D.py] at this
        | bor es => cases e; have := r1.dp hs (by rw [D.pure]; exact h2); rwa [D.py] at this
        | _ => cases e
      · rw [if_neg ok] at p; exact p.elim) ho he hbase hfew hline hs hplain
end
end DL

end
section
set_option autoImplicit false
namespace DL
open PySem PySem.Spec PyProof.Rows L2

/-! ### zip of two, each a list or a tuple -/
theorem ao_zip2 (o a b : Value) : argsOk "object.__init__" ⟨[o, a, b], []⟩ := by
  unfold argsOk
  rw [signature?_of (id := "object.__init__") (n := ['_', '_', 't', 'i', 'n', 'i', '_', '_']) (o := ['t', 'c', 'e', 'j', 'b', 'o']) (by kernel_rfl) PySem.F.owner_object]
  kernel_rfl
theorem tc_zip2 (a b : Value) : checkTypeCall "zip" ⟨[a, b], []⟩ = pure () := by kernel_rfl
theorem nc_zip2 (a b : Value) : checkBuiltinCall "zip.__new__" ⟨[.type "zip", a, b], []⟩ = pure () := by kernel_rfl
/-- an iterator over a tuple, over a list -/
abbrev itT (l : Addr) : Obj := { cls := .type "tuple_iterator", data := .fields #[.ref l, .int 0 0] }
abbrev itL (l : Addr) : Obj := { cls := .type "list_iterator", data := .fields #[.ref l, .int 0 0] }
def itO : Bool → Addr → Obj
  | true, l => itT l
  | false, l => itL l
def SeqOf (h : Heap) (tu : Bool) (a : Addr) (xs : Array Value) : Prop := (tu = true ∧ h.IsTuple a xs) ∨ (tu = false ∧ h.IsList a xs)
theorem SeqOf.push {h : Heap} {tu : Bool} {a : Addr} {xs : Array Value} (x : SeqOf h tu a xs) (o : Obj) : SeqOf (h.push o) tu a xs := x.elim (fun ⟨e, y⟩ => .inl ⟨e, y.push o⟩) (fun ⟨e, y⟩ => .inr ⟨e, y.push o⟩)
theorem iter_sq {prog : Program} {w : World} {A : Around} {E : Value → Shared → Prop} {s : Shared} {tu : Bool} {l : Addr} {xs : Array Value} {Q : Value → Shared → Prop} (hl : SeqOf s.heap tu l xs)
    (h : Q (.ref s.heap.objs.size) { s with heap := s.heap.push (itO tu l) }) : wpAny (model prog w) A (pyIter (.ref l)) Q E s := by
  rcases hl with ⟨rfl, hl⟩ | ⟨rfl, hl⟩
  · exact wpAny_pyIter_tuple hl h
  · exact wpAny_pyIter_list hl h
abbrev v1 (h : Heap) (ta : Bool) (a : Addr) : Heap := h.push (itO ta a)
abbrev v2 (h : Heap) (ta tb : Bool) (a b : Addr) : Heap := (v1 h ta a).push (itO tb b)
abbrev v3 (h : Heap) (ta tb : Bool) (a b : Addr) : Heap := (v2 h ta tb a b).push { cls := .type "tuple", data := .seq #[.ref h.objs.size, .ref (v1 h ta a).objs.size] }
abbrev v4 (h : Heap) (ta tb : Bool) (a b : Addr) : Heap := (v3 h ta tb a b).push { cls := .type "tuple", data := .seq #[.none, .none] }
abbrev v5 (h : Heap) (ta tb : Bool) (a b : Addr) : Heap := (v4 h ta tb a b).push { cls := .type "zip", data := .fields #[.none, .bool false, .bool false, .ref (v2 h ta tb a b).objs.size, .ref (v3 h ta tb a b).objs.size] }
theorem meets_zip2 (ta tb : Bool) (a b : Addr) (xa xb : Array Value) :
    Meets (Builtin.«zip.__new__» ⟨[.type "zip", .ref a, .ref b], []⟩) (fun _ R s => SeqOf s.heap ta a xa ∧ SeqOf s.heap tb b xb ∧
      R (.ok (.ret (.ref (v4 s.heap ta tb a b).objs.size))) { s with heap := v5 s.heap ta tb a b }) :=
  .of_wp fun prog w A R s h => by
    obtain ⟨hp, g, dr, tk, os⟩ := s
    obtain ⟨ha, hb, h⟩ := h
    have hsub := sub_zip
    have La : SeqOf (Shared.heap ⟨hp, g, dr, tk, os⟩) ta a xa := ha
    have Lb : SeqOf (Shared.heap ⟨v1 hp ta a, g, dr, tk, os⟩) tb b xb := hb.push _
    wp_walk using iter_sq La, iter_sq Lb
    exact ⟨_, rfl, h⟩
section
variable {prog : Program} {w : World} {A : Around} {E : Value → Shared → Prop} {s : Shared}
def zi2 (n : Nat) (ta tb : Bool) (a b : Addr) (xa xb : Array Value) : List ZI := [⟨n, a, xa, ta⟩, ⟨n + 1, b, xb, tb⟩]
theorem zi2_apart {n : Nat} {ta tb : Bool} {a b : Nat} {xa xb : Array Value} (ha : a < n) (hb : b < n) : ZAp (n + 4) (n + 2) (n + 3) (zi2 n ta tb a b xa xb) where
  nd := by
    show [n, n + 1].Nodup
    simp
  TIz := ne_of (by omega)
  TOz := ne_of (by omega)
  TIO := ne_of (by omega)
  iz := fun e me => by
    unfold zi2 at me
    simp only [List.mem_cons, List.not_mem_nil, or_false] at me
    rcases me with rfl | rfl <;> exact ⟨ne_of (by dsimp only; omega), ne_of (by dsimp only; omega), ne_of (by dsimp only; omega)⟩
  lz := fun e me => by
    unfold zi2 at me
    simp only [List.mem_cons, List.not_mem_nil, or_false] at me
    rcases me with rfl | rfl <;> exact ⟨ne_of (by dsimp only; omega), ne_of (by dsimp only; omega), ne_of (by dsimp only; omega)⟩
  li := fun e me f mf => by
    unfold zi2 at me mf
    simp only [List.mem_cons, List.not_mem_nil, or_false] at me mf
    rcases me with rfl | rfl <;> rcases mf with rfl | rfl <;> exact ne_of (by dsimp only; omega)
theorem it_at {h : Heap} {tu : Bool} {n l : Addr} {xs : Array Value} (g : h.get? n = some (itO tu l)) : (ZI.mk n l xs tu).At h 0 := by
  cases tu with
  | true => exact .inl ⟨rfl, _, g, rfl, rfl⟩
  | false => exact .inr ⟨rfl, _, g, rfl, rfl⟩
theorem call_zip2 {ta tb : Bool} {a b : Addr} {xa xb : Array Value} {Q : Value → Shared → Prop} (ha : SeqOf s.heap ta a xa) (hb : SeqOf s.heap tb b xb)
    (h : ∀ h', ZTn (s.heap.objs.size + 4) (s.heap.objs.size + 2) (s.heap.objs.size + 3) (zi2 s.heap.objs.size ta tb a b xa xb) 0 h' → h'.objs.size = s.heap.objs.size + 5 →
      (∀ c o, s.heap.get? c = some o → h'.get? c = some o) → Q (.ref (s.heap.objs.size + 4)) { s with heap := h' }) :
    wpAny (model prog w) A (call (.type "zip") [.ref a, .ref b]) Q E s := by
  refine callType_new F.called_zip (by decide) (tc_zip2 _ _) (nc_zip2 _ _) (fun obj => ao_zip2 obj _ _) F.entry_zip_new (meets_zip2 ta tb a b xa xb) ⟨ha, hb, ?_⟩
  have z1 : (v1 s.heap ta a).objs.size = s.heap.objs.size + 1 := Heap.size_push ..
  have z2 : (v2 s.heap ta tb a b).objs.size = s.heap.objs.size + 2 := by rw [Heap.size_push, z1]
  have z3 : (v3 s.heap ta tb a b).objs.size = s.heap.objs.size + 3 := by rw [Heap.size_push, z2]
  have z4 : (v4 s.heap ta tb a b).objs.size = s.heap.objs.size + 4 := by rw [Heap.size_push, z3]
  have z5 : (v5 s.heap ta tb a b).objs.size = s.heap.objs.size + 5 := by rw [Heap.size_push, z4]
  have p5 : ∀ q o, (v4 s.heap ta tb a b).get? q = some o → (v5 s.heap ta tb a b).get? q = some o := fun q o e => Heap.get?_push_of_some _ e
  have p4 : ∀ q o, (v3 s.heap ta tb a b).get? q = some o → (v5 s.heap ta tb a b).get? q = some o := fun q o e => p5 q o (Heap.get?_push_of_some _ e)
  have p3 : ∀ q o, (v2 s.heap ta tb a b).get? q = some o → (v5 s.heap ta tb a b).get? q = some o := fun q o e => p4 q o (Heap.get?_push_of_some _ e)
  have p2 : ∀ q o, (v1 s.heap ta a).get? q = some o → (v5 s.heap ta tb a b).get? q = some o := fun q o e => p3 q o (Heap.get?_push_of_some _ e)
  have p1 : ∀ q o, s.heap.get? q = some o → (v5 s.heap ta tb a b).get? q = some o := fun q o e => p2 q o (Heap.get?_push_of_some _ e)
  have g5 : (v5 s.heap ta tb a b).get? (v4 s.heap ta tb a b).objs.size = some _ := Heap.get?_push_size _ rfl
  have g4 := p5 (v3 s.heap ta tb a b).objs.size _ (Heap.get?_push_size _ rfl)
  have g3 := p4 (v2 s.heap ta tb a b).objs.size _ (Heap.get?_push_size _ rfl)
  have fr : ∀ (u : Bool) (l : Addr), (itO u l).isFreed = false := fun u l => by cases u <;> rfl
  have g2 := p3 (v1 s.heap ta a).objs.size _ (Heap.get?_push_size _ (fr tb b))
  have g1 := p2 s.heap.objs.size _ (Heap.get?_push_size _ (fr ta a))
  show _ ∧ _
  rw [z2, z3, z4] at g5
  rw [z3] at g4
  rw [z1, z2] at g3
  rw [z1] at g2
  rw [z4]
  refine ⟨⟨_, g5, rfl⟩, h _ ⟨_, _, [.none, .none], g5, .inl rfl, g3, g4, rfl, fun e me => ?_⟩ z5 p1⟩
  unfold zi2 at me
  simp only [List.mem_cons, List.not_mem_nil, or_false] at me
  rcases me with rfl | rfl
  · exact it_at g1
  · exact it_at g2
end
end DL

end
section
set_option autoImplicit false
namespace DL
open PySem PySem.Spec PyProof.Rows L2

def SqK (K : PySem.W.Frag) (H : Hp) : Bool → Addr → List V → Prop
  | true, a, xs => SqT K H a xs
  | false, a, xs => SqL K H a xs
theorem SqK.seq {X : Cx} {pins : List (Addr × Obj)} {σ : L2.St} {H : Hp} {s : Shared} {tu : Bool} {a : Addr} {xs : List V} (I : Inv X pins σ H s) (h : SqK X.K H tu a xs) : ∃ its : List Value, Vals xs its ∧ SeqOf s.heap tu a its.toArray := by
  cases tu with
  | true => obtain ⟨its, r, p, _⟩ := I.tuple h; exact ⟨its, r, .inl ⟨rfl, p⟩⟩
  | false => obtain ⟨its, r, p, _⟩ := I.list h; exact ⟨its, r, .inr ⟨rfl, p.isList⟩⟩
theorem SqK.inj {X : Cx} {pins : List (Addr × Obj)} {σ : L2.St} {H : Hp} {s : Shared} {tu : Bool} {a : Addr} {xs ys : List V} (I : Inv X pins σ H s) (h : SqK X.K H tu a xs) (h' : SqK X.K H tu a ys) : xs = ys := by
  cases tu with
  | true => exact I.tuple_inj h h'
  | false => exact I.list_inj h h'
theorem SeqOf.lt {h : Heap} {tu : Bool} {a : Addr} {xs : Array Value} (x : SeqOf h tu a xs) : a < h.objs.size := by
  rcases x with ⟨_, o, e, _⟩ | ⟨_, o, e, _⟩ <;> exact Heap.lt_size e
/-- the two at a, b as they stand at each turn, the items in new pairs -/
def It2 (K : PySem.W.Frag) (ta tb : Bool) (a b : Addr) : It :=
  ⟨fun i H => ∃ (xa xb : List V) (p q : V), SqK K H ta a xa ∧ SqK K H tb b xb ∧ xa[i]? = some p ∧ xb[i]? = some q,
    fun i H v H' => ∃ T p q, v = .ref T ∧ H T = none ∧ H' = upd H T (.tup [p, q]) ∧ (∀ l, SqK K H ta a l → l[i]? = some p) ∧ ∀ l, SqK K H tb b l → l[i]? = some q,
    fun i H => ∃ xa xb : List V, SqK K H ta a xa ∧ SqK K H tb b xb ∧ (xa.length ≤ i ∨ xb.length ≤ i)⟩
theorem ZTn.re2 {z TI TO : Addr} {n : Nat} {ta tb : Bool} {a b : Addr} {xa xb ya yb : Array Value} {i : Nat} {h : Heap} (t : ZTn z TI TO (zi2 n ta tb a b xa xb) i h) : ZTn z TI TO (zi2 n ta tb a b ya yb) i h := by
  obtain ⟨f0, f1, ws, hz, hf, hTI, hTO, hw, hat⟩ := t
  refine ⟨f0, f1, ws, hz, hf, hTI, hTO, hw, fun e me => ?_⟩
  unfold zi2 at me
  simp only [List.mem_cons, List.not_mem_nil, or_false] at me
  rcases me with rfl | rfl
  · exact hat ⟨n, a, xa, ta⟩ (by simp [zi2])
  · exact hat ⟨n + 1, b, xb, tb⟩ (by simp [zi2])
theorem ztn_obj2 {n : Nat} {ta tb : Bool} {a b : Nat} {i : Nat} {h : Heap} (st : ZTn (n + 4) (n + 2) (n + 3) (zi2 n ta tb a b #[] #[]) i h) : ∀ q ∈ ([n + 4, n + 2, n + 3, n, n + 1] : List Addr), ∃ o, h.get? q = some o ∧ ∀ v, o.data ≠ .cell v := fun q hq => by
  obtain ⟨f0, f1, ws, hz, hf, hTI, hTO, hw, hat⟩ := st
  have i1 := hat ⟨n, a, #[], ta⟩ (by simp [zi2])
  have i2 := hat ⟨n + 1, b, #[], tb⟩ (by simp [zi2])
  have it : ∀ {e : ZI}, e.At h i → ∃ o, h.get? e.it = some o ∧ ∀ v, o.data ≠ .cell v := fun {e} q => by
    rcases q with ⟨_, o, e1, _, d1⟩ | ⟨_, o, e1, _, d1⟩
    · exact ⟨o, e1, fun v z => by rw [d1] at z; cases z⟩
    · exact ⟨o, e1, fun v z => by rw [d1] at z; cases z⟩
  simp only [List.mem_cons, List.not_mem_nil, or_false] at hq
  rcases hq with rfl | rfl | rfl | rfl | rfl
  · exact ⟨_, hz, fun v z => nomatch z⟩
  · exact ⟨_, hTI, fun v z => nomatch z⟩
  · exact ⟨_, hTO, fun v z => nomatch z⟩
  · exact it i1
  · exact it i2
section
variable {prog : Program} {w : World} {A : Around} {E : Value → Shared → Prop} {s : Shared}
/-- a pair that is taken apart at once: the mark is taken off -/
theorem let_go2 {elts : List Expr} {x1 : Nat} {pos : Pos} {z TI TO T : Addr} {Z : List ZI} {i : Nat} {Q : Unit → Shared → Prop} (D : ZAp z TI TO Z) (tn : ZTn z TI TO Z i s.heap)
    (hQ : ∀ h', ZTn z TI TO Z i h' → Heap.SameBut z s.heap h' → Q () { s with heap := h' }) : wpAny (model prog w) A (letOwnedTupleGo (.Tuple elts x1 pos) (.ref z) (.ref T)) Q E s := by
  obtain ⟨f0, b, ws, hz, hf, hTI, hTO, hw, hat⟩ := tn
  unfold letOwnedTupleGo
  refine wpAny_bind (wpAny_load hz ?_)
  show wpAny _ _ (if (["enumerate", "zip", "dict_itemiterator", "dict_reverseitemiterator", "odict_iterator", "itertools.zip_longest", "itertools.pairwise"].contains "zip" &&
      (#[f0, .bool b, .bool false, .ref TI, .ref TO] : Array Value)[0]? == some (rawInt T)) = true then _ else _) Q E s
  by_cases hc : (["enumerate", "zip", "dict_itemiterator", "dict_reverseitemiterator", "odict_iterator", "itertools.zip_longest", "itertools.pairwise"].contains "zip" &&
      (#[f0, .bool b, .bool false, .ref TI, .ref TO] : Array Value)[0]? == some (rawInt T)) = true
  · rw [if_pos hc]
    refine wpAny_bind (wpAny_rule ?_)
    show wpAny _ _ (setField (.ref z) 0 .none) Q E s
    refine wpAny_setField_rec hz (by simp) fun h' hz' hs' => hQ h' ⟨.none, b, ws, hz', .inl rfl, ?_, ?_, hw, fun e me => ?_⟩ hs'
    · exact (hs'.2 _ D.TIz).trans hTI
    · exact (hs'.2 _ D.TOz).trans hTO
    · exact (hat e me).keep fun o q => (hs'.2 _ (D.iz e me).1).trans q
  · rw [if_neg hc]
    refine wpAny_pure ?_
    exact hQ s.heap ⟨f0, b, ws, hz, hf, hTI, hTO, hw, hat⟩ ⟨rfl, fun _ _ => rfl⟩
end
theorem turn_zip2 {P : Program} {w : World} {K : PySem.W.Frag} {elts : List Expr} {kk : Nat} {tpos : Pos} {n : Nat} {ta tb : Bool} {a b : Nat} (ha : a < n) (hb : b < n) :
    Turn P w K (.Tuple elts kk tpos) (It2 K ta tb a b) [n + 4, n + 2, n + 3, n, n + 1] (n + 4) (fun i h => ZTn (n + 4) (n + 2) (n + 3) (zi2 n ta tb a b #[] #[]) i h) where
  mem := by simp
  obj := fun i h st q hq => ztn_obj2 st q hq
  keep := fun i h h' st k => by
    obtain ⟨f0, f1, ws, hz, hf, hTI, hTO, hw, hat⟩ := st
    refine ⟨f0, f1, ws, k _ (by simp) _ hz, hf, k _ (by simp) _ hTI, k _ (by simp) _ hTO, hw, fun e me => (hat e me).keep fun o q => k _ ?_ o q⟩
    unfold zi2 at me
    simp only [List.mem_cons, List.not_mem_nil, or_false] at me
    rcases me with rfl | rfl <;> simp
  item := by
    intro X hP hw hK hcalm i pins s σ H E I hf st hg
    subst hP hw hK
    obtain ⟨xa, xb, p, q, qa, qb, e1, e2⟩ := hg
    obtain ⟨ia, ra, pa⟩ := SqK.seq I qa
    obtain ⟨ib, rb, pb⟩ := SqK.seq I qb
    obtain ⟨ua, ga, sa⟩ := ra.get e1
    obtain ⟨ub, gb, sb⟩ := rb.get e2
    refine zip_item (Z := zi2 n ta tb a b ia.toArray ib.toArray) (vs := [ua, ub]) (zi2_apart ha hb) (by simp [zi2]) st.re2 (fun e me => ?_) rfl (fun j e he => ?_) (by show 2 ≤ sizeLine; decide) fun h' t1 t2 t3 t4 => ?_
    · unfold zi2 at me
      simp only [List.mem_cons, List.not_mem_nil, or_false] at me
      rcases me with rfl | rfl
      · exact pa
      · exact pb
    · unfold zi2 at he
      match j, he with
      | 0, he => cases he; exact ⟨ua, by simpa using ga, rfl⟩
      | 1, he => cases he; exact ⟨ub, by simpa using gb, rfl⟩
      | j + 2, he => simp at he
    · refine ⟨_, rfl, let_go2 (zi2_apart (xa := ia.toArray) (xb := ib.toArray) ha hb) t1 fun h'' u1 sbt => ?_⟩
      have hzl : n + 4 < s.heap.objs.size := by
        obtain ⟨o, ho, _⟩ := ztn_obj2 st (n + 4) (by simp)
        exact Heap.lt_size ho
      have hT2 : h''.get? s.heap.objs.size = some { cls := .type "tuple", data := .seq #[ua, ub] } := (sbt.2 _ (Nat.ne_of_gt hzl)).trans t2
      have new : ObjOk X.prog X.w (upd H s.heap.objs.size (.tup [p, q])) h'' s.heap.objs.size (.tup [p, q]) :=
        ⟨by show 2 ≤ sizeLine; decide, [ua, ub], .cons sa (.cons sb .nil), ⟨_, hT2, rfl, _, rfl⟩⟩
      have I1 : Inv X pins σ (upd H s.heap.objs.size (.tup [p, q])) { s with heap := h'' } :=
        I.turnedNew (t' := s.toks) (ch := [n + 4, n + 2, n + 3, n, n + 1]) (fun v o hv z => (sbt.2 v (fun y => hv (by simp [y]))).trans (t4 v o (fun y => hv (by simp [y])) (fun y => hv (by simp [y])) (fun e me y => hv (by
          unfold zi2 at me
          simp only [List.mem_cons, List.not_mem_nil, or_false] at me
          rcases me with rfl | rfl <;> (subst y; simp))) z)) hf (Nat.le_refl _) new
      refine ⟨.ref s.heap.objs.size, _, I1, rfl, ⟨_, p, q, rfl, I.hok.fresh (Nat.le_refl _), rfl, fun l hl => by rw [SqK.inj I hl qa]; exact e1, fun l hl => by rw [SqK.inj I hl qb]; exact e2⟩, u1.re2, fun v hv => ?_⟩
      obtain ⟨o, ho, _⟩ := ztn_obj2 st v hv
      rw [upd_ne (Nat.ne_of_lt (Heap.lt_size ho))]
      exact (hf v hv).1
  done := by
    intro X hP hw hK hcalm i pins s σ H E I hf st hg
    subst hP hw hK
    obtain ⟨xa, xb, qa, qb, hend⟩ := hg
    obtain ⟨ia, ra, pa⟩ := SqK.seq I qa
    obtain ⟨ib, rb, pb⟩ := SqK.seq I qb
    have la := ra.length
    have lb := rb.length
    refine zip_stop (Z := zi2 n ta tb a b ia.toArray ib.toArray) (I.ok.hd hcalm) (zi2_apart ha hb) (by simp [zi2]) st.re2 (fun e me => ?_) (by show 2 ≤ sizeLine; decide) ?_ fun h' t4 => ?_
    · unfold zi2 at me
      simp only [List.mem_cons, List.not_mem_nil, or_false] at me
      rcases me with rfl | rfl
      · exact pa
      · exact pb
    · rcases hend with q | q
      · exact ⟨⟨n, a, ia.toArray, ta⟩, by simp [zi2], by simp; omega⟩
      · exact ⟨⟨n + 1, b, ib.toArray, tb⟩, by simp [zi2], by simp; omega⟩
    · exact ⟨rfl, I.turnedL (t' := s.toks) (ch := [n + 4, n + 2, n + 3, n, n + 1]) (fun v o hv q => t4 v o (fun z => hv (by simp [z])) (fun z => hv (by simp [z])) (fun e me z => hv (by
          unfold zi2 at me
          simp only [List.mem_cons, List.not_mem_nil, or_false] at me
          rcases me with rfl | rfl <;> (subst z; simp))) q) hf⟩
  self := fun A i s Q E st h => by
    obtain ⟨f0, f1, ws, hz, _⟩ := st
    have ty : s.TypeIs (.ref (n + 4)) "zip" := ⟨_, hz, rfl⟩
    apply wpAny_pyIter_slot ty F.slot_zip_iter
    apply wpAny_call_entry F.slot_zip_iter ty F.entry_zip_iter ?_ (F.args_zip_iter_1 _)
    show wpAny _ _ (ret (.ref (n + 4))) _ _ s
    exact wpAny_pure ⟨_, rfl, "zip", _, ty, F.slot_zip_next.lookup, h⟩
def iZ2 (K : PySem.W.Frag) (t : TA) : TI := fun σ H R => t σ H fun vs H1 => ∃ (ta tb : Bool) (a b : Addr) (xa xb : List V), vs = [.ref a, .ref b] ∧ SqK K H1 ta a xa ∧ SqK K H1 tb b xb ∧ R (It2 K ta tb a b) H1
theorem pi_zip2 {X : Cx} {e e2 : Expr} {t : TA} {p pos tpos : Pos} {elts : List Expr} {kk : Nat} (hg : Gl X "zip") (hm : X.mg "zip" = none) (ha : PA X [e, e2] t)
    (hs : starEach [e, e2] X.env = (false, eval e X.env) :: starEach [e2] X.env := by rfl) (hpl : (backTo pos (starEach [e2] X.env)).any (·.1) = false := by rfl) :
    PI X (.Tuple elts kk tpos) (.Call (.Name "zip" p) [e, e2] [] pos) (iZ2 X.K t) := by
  refine ⟨fun pins s σ H R I h => ?_⟩
  refine Call_ (ld_blt I hg hm PyProof.Rows.boot_zip (PyProof.Rows.callWith_type1 (thn (ha.run pos pins s σ H _ I h) fun us s1 ⟨vs, H1, I1, r1, q1⟩ => ?_) hs hpl))
  obtain ⟨ta, tb, a, b, xa, xb, ex, qa, qb, go⟩ := q1
  subst ex
  cases r1 with
  | cons r rr =>
    cases rr with
    | cons r' rr =>
      cases rr
      cases r
      cases r'
      obtain ⟨ia, ra, pa⟩ := SqK.seq I1 qa
      obtain ⟨ib, rb, pb⟩ := SqK.seq I1 qb
      refine call_zip2 pa pb fun h' tn hsz hk => ?_
      have I3 : L2.Inv X pins σ H1 { s1 with heap := h' } := I1.kept (t' := s1.toks) hk
      have T := turn_zip2 (P := X.prog) (w := X.w) (K := X.K) (elts := elts) (kk := kk) (tpos := tpos) (ta := ta) (tb := tb) pa.lt pb.lt
      refine T.self _ 0 _ _ _ tn.re2 ⟨_, _, _, _, H1, rfl, I3, T, tn.re2, fun v hv => ?_, go⟩
      have hle : s1.heap.objs.size ≤ v := by
        simp only [List.mem_cons, List.not_mem_nil, or_false] at hv
        rcases hv with rfl | rfl | rfl | rfl | rfl <;> first | exact Nat.le_refl _ | exact Nat.le_add_right _ _
      exact I1.fpOk hle (I1.hok.fresh hle)
/-- two that are zipped: each a list or a tuple -/
def zip2 : List D → Option (List D)
  | [x, y] => (seqO x).bind fun as => (seqO y).map fun bs => zipL as bs
  | _ => none
def zip2I (fs : Ea) : Ea := fun ρ => (fs ρ).bind fun ds => ofO (zip2 ds)
theorem Rp.sqk {K : PySem.W.Frag} {S H : Hp} {v : V} {d : D} {ds : List D} (hs : Same S H) (r : Rp K S v d) (e : seqO d = some ds) : ∃ (tu : Bool) (a : Addr) (xs : List V), v = .ref a ∧ (∀ H', Same S H' → SqK K H' tu a xs) ∧ RpAll K S xs ds := by
  cases d with
  | tup es =>
    cases e
    cases r with
    | tup h q => exact ⟨true, _, _, rfl, fun H' m => Same.seqT m h, q⟩
  | lst es =>
    cases e
    cases r with
    | lst h q => exact ⟨false, _, _, rfl, fun H' m => SqL.of (m _ _ h), q⟩
  | _ => cases e
theorem it_zip2 {K : PySem.W.Frag} {S : Hp} {ta tb : Bool} {a b : Addr} {xs ys : List V} {ds es : List D} (h : ∀ H', Same S H' → SqK K H' ta a xs) (r : RpAll K S xs ds) (h' : ∀ H', Same S H' → SqK K H' tb b ys) (r' : RpAll K S ys es) : ItOk K (It2 K ta tb a b) S (zipL ds es) := by
  have len : (zipL ds es).length = min xs.length ys.length := by unfold zipL; rw [List.length_zipWith, r.length, r'.length]
  refine ⟨fun H => SqK K H ta a xs ∧ SqK K H tb b ys, fun i H v H' => ∃ T p q, v = .ref T ∧ H T = none ∧ H' = upd H T (.tup [p, q]) ∧ xs[i]? = some p ∧ ys[i]? = some q,
    ⟨fun i H hi g => ?_, fun H g => ?_, fun i H v H' hi g y => ?_⟩, fun H m => ⟨h H m, h' H m⟩, fun i H x H' d S2 y e m1 m2 => ?_⟩
  · rw [len] at hi
    have h1 : i < xs.length := by omega
    have h2 : i < ys.length := by omega
    exact ⟨xs, ys, xs[i], ys[i], g.1, g.2, List.getElem?_eq_getElem h1, List.getElem?_eq_getElem h2⟩
  · refine ⟨xs, ys, g.1, g.2, ?_⟩
    rw [len]
    omega
  · obtain ⟨T, p, q, e1, e2, e3, k1, k2⟩ := y
    exact ⟨T, p, q, e1, e2, e3, k1 xs g.1, k2 ys g.2⟩
  · obtain ⟨T, p, q, rfl, hT, rfl, e1, e2⟩ := y
    unfold zipL at e
    rw [List.getElem?_zipWith] at e
    cases e3 : ds[i]? with
    | none => rw [e3] at e; simp at e
    | some d0 =>
      cases e4 : es[i]? with
      | none => rw [e3, e4] at e; simp at e
      | some d1 =>
        rw [e3, e4] at e
        simp only [Option.some.injEq] at e
        subst e
        obtain ⟨z, k1, k2⟩ := r.get e3
        obtain ⟨z', k3, k4⟩ := r'.get e4
        rw [e1] at k1
        rw [e2] at k3
        obtain rfl := Option.some.inj k1
        obtain rfl := Option.some.inj k3
        have ex := Ext.mk1 m2 hT (.tup [p, q])
        exact ⟨_, ex, .tup (SqT.of upd_same) (.cons ((k2.mono m1).mono ex.ss) (.cons ((k4.mono m1).mono ex.ss) .nil))⟩
section
variable {X : Cx} {W : WX} {e e2 : Expr} {fs : Ea} {p pos tpos : Pos} {elts : List Expr} {kk : Nat}
theorem i_zip2 (hm : X.mg "zip" = none) (ha : PA X [e, e2] (TAs X.K W fs)) (hg : Gl X "zip" := by rfl) (hs : starEach [e, e2] X.env = (false, eval e X.env) :: starEach [e2] X.env := by rfl) (hpl : (backTo pos (starEach [e2] X.env)).any (·.1) = false := by rfl) :
    PI X (.Tuple elts kk tpos) (.Call (.Name "zip" p) [e, e2] [] pos) (TIs X.K W (zip2I fs)) := PI.imp (pi_zip2 hg hm ha hs hpl) fun σ H R q => by
  obtain ⟨S0, H0, S, ρ, Re, p⟩ := q
  refine ⟨S0, H0, S, ρ, Re, ?_⟩
  unfold zip2I at p
  cases e : fs ρ with
  | err x => rw [e] at p; exact p
  | st => rw [e] at p; exact p
  | ok ds =>
    rw [e] at p
    simp only [bind_ok] at p
    intro vs S1 H1 ex r
    match ds, r, p with
    | [], r, p => exact p.elim
    | [_], r, p => exact p.elim
    | _ :: _ :: _ :: _, r, p => exact p.elim
    | [dx, dy], r, p =>
      cases r with
      | cons r1 r =>
        cases r with
        | cons r2 r =>
          cases r
          unfold zip2 at p
          cases ea : seqO dx with
          | none => simp only [ea, Option.bind_none, ofO_none] at p
          | some as =>
            cases eb : seqO dy with
            | none => simp only [ea, eb, Option.bind_some, Option.map_none, ofO_none] at p
            | some bs =>
              simp only [ea, eb, Option.bind_some, Option.map_some, ofO_some] at p
              obtain ⟨ta, a, xa, rfl, ka, qa⟩ := r1.sqk ex.sh ea
              obtain ⟨tb, b, xb, rfl, kb, qb⟩ := r2.sqk ex.sh eb
              exact ⟨ta, tb, a, b, xa, xb, rfl, ka H1 ex.sh, kb H1 ex.sh, p _ S1 H1 ex (it_zip2 ka qa kb qb)⟩
end
end DL

end
section
set_option autoImplicit false
namespace DL
open PySem PySem.Spec PyProof.Rows L2
open AutoSeq1 (wpAny_loadPart')

/-! ### enumerate of a list or a tuple -/
theorem meets_enumT (l : Addr) (items : Array Value) (n : Nat) (dct : Option Addr) (sl : Array (Option Value)) :
    Meets (Builtin.«enumerate.__new__» ⟨[.type "enumerate", .ref l], []⟩) (fun _ R s => s.heap.get? l = some { cls := .type "tuple", dict := dct, data := .seq items n, slots := sl } ∧
      R (.ok (.ret (.ref (s.heap.push (itT l)).objs.size)))
        { s with heap := (s.heap.push (itT l)).push { cls := .type "enumerate", data := .fields #[.none, .bool false, .ref s.heap.objs.size, rawInt 0, .none, .none] } }) :=
  .of_wp fun prog w A R s h => by
    obtain ⟨hp, g, d, tk, os⟩ := s; obtain ⟨hl, h⟩ := h
    have hsub := sub_enumerate
    have hL : Heap.IsTuple (Shared.heap ⟨hp, g, d, tk, os⟩) l items := ⟨_, hl, rfl, n, rfl⟩
    wp_walk using wpAny_loadPart' hl
    refine wpAny_stack_any fun st => wpAny_pure ?_
    split
    · rename_i c _ _ _ _ _
      cases (c == Value.type "enumerate")
      · wp_walk using wpAny_loadPart' hl, wpAny_pyIter_tuple hL
        exact ⟨_, rfl, h⟩
      · wp_walk using wpAny_loadPart' hl, wpAny_pyIter_tuple hL
        exact ⟨_, rfl, h⟩
    · wp_walk using wpAny_loadPart' hl, wpAny_pyIter_tuple hL
      exact ⟨_, rfl, h⟩
section
variable {prog : Program} {w : World} {A : Around} {E : Value → Shared → Prop} {s : Shared}
theorem call_enumT {l : Addr} {items : Array Value} {Q : Value → Shared → Prop} (hL : s.heap.IsTuple l items)
    (h : ∀ h', IsEnum h' (s.heap.objs.size + 1) s.heap.objs.size 0 .none → h'.IsTupleIter s.heap.objs.size l 0 → h'.objs.size = s.heap.objs.size + 2 →
      (∀ b o, s.heap.get? b = some o → h'.get? b = some o) → Q (.ref (s.heap.objs.size + 1)) { s with heap := h' }) :
    wpAny (model prog w) A (call (.type "enumerate") [.ref l]) Q E s := by
  obtain ⟨⟨c, dct, dt, sl⟩, hl, hc, n, hd⟩ := hL
  replace hc : c = .type "tuple" := hc
  replace hd : dt = .seq items n := hd
  subst hc hd
  refine callType_new F.called_enumerate (by decide) (F.typeCall_enumerate_1 _) (F.newCall_enumerate_1 _) (fun obj => F.args_object_init_2 obj _) F.entry_enumerate_new
    (meets_enumT l items n dct sl) ⟨hl, ?_⟩
  have hz : (s.heap.push (itT l)).objs.size = s.heap.objs.size + 1 := Heap.size_push ..
  show _ ∧ _
  rw [hz]
  have he : IsEnum ((s.heap.push (itT l)).push
      { cls := .type "enumerate", data := .fields #[.none, .bool false, .ref s.heap.objs.size, rawInt 0, .none, .none] }) (s.heap.objs.size + 1) s.heap.objs.size 0 .none := by
    have := Heap.get?_push_size (s.heap.push (itT l))
      (o := { cls := .type "enumerate", data := .fields #[.none, .bool false, .ref s.heap.objs.size, rawInt 0, .none, .none] }) rfl
    rw [hz] at this; exact this
  refine ⟨⟨_, he, rfl⟩, h _ he ⟨_, Heap.get?_push_of_some _ (Heap.get?_push_size _ rfl), rfl, rfl⟩ (by rw [Heap.size_push, hz]) fun b o x => Heap.get?_push_of_some _ (Heap.get?_push_of_some _ x)⟩
theorem enum_endT {e it l : Addr} {i : Nat} {items : Array Value} {old : Value} {Q : Option Value → Shared → Prop} (hh : A.handled = none)
    (he : IsEnum s.heap e it i old) (hit : s.heap.IsTupleIter it l i) (hl : s.heap.IsTuple l items) (hx : items[i]? = none)
    (hQ : ∀ h', Heap.ExtBut it s.heap h' → Q none { s with heap := h' }) : wpAny (model prog w) A (pyNext (.ref e)) Q E s := by
  have hT : s.TypeIs (.ref e) "enumerate" := ⟨_, he, rfl⟩
  unfold pyNext
  refine wpAny_bind (wpAny_attempt (wpAny_callSpecial?_slot (name := Str.ofString "__next__") hT F.slot_enumerate_next
    (wpAny_call_entry F.slot_enumerate_next hT F.entry_enumerate_next ?_ (F.args_enumerate_next_1 _))))
  show wpAny _ _ (field (.ref e) 2 >>= _) _ _ _
  refine wpAny_bind (wpAny_field he rfl (x := .ref it) rfl ?_)
  refine wpAny_bind (wpAny_nextOf_tuple_end hh hit hl hx fun h' x he' hx' => ?_)
  obtain ⟨o, ho, hc⟩ := hx'
  refine wpAny_bind (wpAny_isInstance (T := "StopIteration") (b := true) ⟨o, ho, hc⟩ isSubtype_stop ?_)
  exact wpAny_pure (hQ _ he')
end
/-- the tuple at a, each item in a new pair -/
def ItET (K : PySem.W.Frag) (a : Addr) : It :=
  ⟨fun i H => ∃ (xs : List V) (x : V), SqT K H a xs ∧ xs[i]? = some x, fun i H v H' => ∃ T x, v = .ref T ∧ H T = none ∧ H' = upd H T (.tup [.int (i : Nat), x]) ∧ ∀ xs, SqT K H a xs → xs[i]? = some x, fun i H => ∃ xs : List V, SqT K H a xs ∧ xs.length ≤ i⟩
theorem turn_enumT {P : Program} {w : World} {K : PySem.W.Frag} {elts : List Expr} {kk : Nat} {tpos : Pos} (a e it : Addr) (hai : a ≠ it) (hae : a ≠ e) :
    Turn P w K (.Tuple elts kk tpos) (ItET K a) [e, it] e (fun i h => (∃ old, IsEnum h e it ((i : Nat) : Int) old) ∧ h.IsTupleIter it a i ∧ e ≠ it) where
  mem := by simp
  obj := fun i h st b hb => by
    obtain ⟨⟨old, he⟩, ⟨o, ho, hc, hd⟩, _⟩ := st
    have e' : b = e ∨ b = it := by simpa using hb
    rcases e' with z | z
    · rw [z]; exact ⟨_, he, fun v q => nomatch q⟩
    · rw [z]; exact ⟨o, ho, fun v q => by rw [hd] at q; cases q⟩
  keep := fun i h h' st k => let ⟨⟨old, he⟩, hi, hne⟩ := st; ⟨⟨old, k e (by simp) _ he⟩, hi.at fun o q => k it (by simp) o q, hne⟩
  item := by
    intro X hP hw hK hc i pins s σ H E I hf st hg
    subst hP hw hK
    obtain ⟨⟨old, he⟩, hit, hne⟩ := st
    obtain ⟨xs, x, hq, hx⟩ := hg
    obtain ⟨its, rv, p, hz⟩ := I.tuple hq
    have p : s.heap.IsTuple a its.toArray := p
    obtain ⟨u, hu, ru⟩ := rv.get hx
    have hel : e < s.heap.objs.size := Heap.lt_size he
    have hil : it < s.heap.objs.size := by obtain ⟨_, q, _⟩ := hit; exact Heap.lt_size q
    have D := Draws.tuple (prog := X.prog) (w := X.w) (A := X.A.in1) (I.ok.hd hc) it a hai its.toArray
    have hsz : i < its.toArray.size := by
      rw [List.size_toArray]
      exact (List.getElem?_eq_some_iff.mp hu).1
    refine wpAny_pyNext_enum_itemD D he ⟨hit, p⟩ hsz hne (by simp [hne]; exact fun z => hae z.symm) fun x' h' tk hP ho hst' hT hsz' hk => ?_
    have ex : x' = u := by
      have h1 : its.toArray[i]? = some x' := hP
      have h2 : its.toArray[i]? = some u := by simpa using hu
      rw [h1] at h2
      exact Option.some.inj h2
    subst ex
    refine ⟨_, rfl, wpAny_letOwnedTupleGo_enum (s := { s with heap := h', toks := tk + 1 }) ho fun h'' he' sb => ?_⟩
    have hT2 : h''.get? s.heap.objs.size = some { cls := .type "tuple", data := .seq #[.int i tk, x'] } := (sb.2 _ (Nat.ne_of_gt hel)).trans hT
    have new : ObjOk X.prog X.w (upd H s.heap.objs.size (.tup [.int (i : Nat), x])) h'' s.heap.objs.size (.tup [.int (i : Nat), x]) :=
      ⟨by show 2 ≤ sizeLine; decide, [.int i tk, x'], .cons ⟨_, rfl⟩ (.cons ru .nil), ⟨_, hT2, rfl, _, rfl⟩⟩
    have I1 : Inv X pins σ (upd H s.heap.objs.size (.tup [.int (i : Nat), x])) { s with heap := h'', toks := tk + 1 } :=
      I.turnedNew (ch := [e, it]) (fun b ob hb q => (sb.2 b (fun z => hb (by simp [z]))).trans (hk b ob (fun z => hb (by simp [z])) (fun z => hb (by simp [z])) q)) hf (Nat.le_refl _) new
    refine ⟨.ref s.heap.objs.size, _, I1, rfl, ⟨_, x, rfl, I.hok.fresh (Nat.le_refl _), rfl, fun ys hy => by rw [I.tuple_inj hy hq]; exact hx⟩, ⟨⟨x', ?_⟩, hst'.1.at fun o q => (sb.2 it (Ne.symm hne)).trans q, hne⟩, fun b hb => ?_⟩
    · have e1 : ((i + 1 : Nat) : Int) = (i : Int) + 1 := by omega
      rw [e1]; exact he'
    · have hb' : b < s.heap.objs.size := by
        have e' : b = e ∨ b = it := by simpa using hb
        rcases e' with z | z
        · rw [z]; exact hel
        · rw [z]; exact hil
      rw [upd_ne (Nat.ne_of_lt hb')]
      exact (hf b hb).1
  done := by
    intro X hP hw hK hc i pins s σ H E I hf st hg
    subst hP hw hK
    obtain ⟨⟨old, he⟩, hit, hne⟩ := st
    obtain ⟨xs, hq, hx⟩ := hg
    obtain ⟨its, rv, p, hz⟩ := I.tuple hq
    have p : s.heap.IsTuple a its.toArray := p
    obtain ⟨f0, f1, f2, f3, f4, f5⟩ := hf it (by simp)
    have hl := rv.length
    exact enum_endT (I.ok.hd hc) he hit p (by simp; omega) fun h' eb => ⟨rfl, I.turned (t' := s.toks) (fun b o hb q => eb b o hb q) f0 f1 f3 f4 f5⟩
  self := fun A i s Q E st h => let ⟨⟨_, he⟩, _⟩ := st; wpAny_pyIter_enum he h
def iEnA (K : PySem.W.Frag) (ta : TA) : TI := fun σ H R => ta σ H fun vs H1 => ∃ a xs, vs = [.ref a] ∧ ((SqL K H1 a xs ∧ R (Ite K a) H1) ∨ (SqT K H1 a xs ∧ R (ItET K a) H1))
theorem pi_enA {X : Cx} {e : Expr} {ta : TA} {p pos tpos : Pos} {elts : List Expr} {kk : Nat} (hg : Gl X "enumerate") (hm : X.mg "enumerate" = none) (ha : PA X [e] ta) (hs : starEach [e] X.env = [(false, eval e X.env)] := by rfl) :
    PI X (.Tuple elts kk tpos) (.Call (.Name "enumerate" p) [e] [] pos) (iEnA X.K ta) := by
  refine ⟨fun pins s σ H R I h => ?_⟩
  refine Call_ (ld_blt I hg hm boot_enumerate (PyProof.Rows.callWith_type1 (thn (ha.run pos pins s σ H _ I h) fun us s1 ⟨vs, H1, I1, r1, q1⟩ => ?_) hs rfl))
  obtain ⟨a, xs, ex, hq⟩ := q1
  subst ex
  have low : ∀ b ∈ ([s1.heap.objs.size + 1, s1.heap.objs.size] : List Addr), FpOk X pins H1 b := fun b hb => by
    have e' : b = s1.heap.objs.size + 1 ∨ b = s1.heap.objs.size := by simpa using hb
    have hle : s1.heap.objs.size ≤ b := by
      rcases e' with z | z
      · rw [z]; exact Nat.le_add_right _ _
      · rw [z]; exact Nat.le_refl _
    exact I1.fpOk hle (I1.hok.fresh hle)
  cases r1 with
  | cons r rr =>
    cases rr
    cases r
    rcases hq with ⟨hq, q⟩ | ⟨hq, q⟩
    · obtain ⟨its, rv, p', hz⟩ := I1.list hq
      refine call_enumerate_list p'.isList fun h' he hit hsz hk => wpAny_pyIter_enum he ?_
      have I2 : Inv X pins σ H1 { s1 with heap := h' } := I1.kept (t' := s1.toks) hk
      exact ⟨s1.heap.objs.size + 1, [s1.heap.objs.size + 1, s1.heap.objs.size], _, _, H1, rfl, I2, turn_enum a (s1.heap.objs.size + 1) s1.heap.objs.size, ⟨⟨.none, he⟩, hit, Nat.succ_ne_self _⟩, low, q⟩
    · obtain ⟨its, rv, p', hz⟩ := I1.tuple hq
      have p' : s1.heap.IsTuple a its.toArray := p'
      have hlt : a < s1.heap.objs.size := by obtain ⟨o, ho, _⟩ := id p'; exact Heap.lt_size ho
      refine call_enumT p' fun h' he hit hsz hk => wpAny_pyIter_enum he ?_
      have I2 : Inv X pins σ H1 { s1 with heap := h' } := I1.kept (t' := s1.toks) hk
      exact ⟨s1.heap.objs.size + 1, [s1.heap.objs.size + 1, s1.heap.objs.size], _, _, H1, rfl, I2, turn_enumT a (s1.heap.objs.size + 1) s1.heap.objs.size (Nat.ne_of_lt hlt) (Nat.ne_of_lt (Nat.lt_succ_of_lt hlt)), ⟨⟨.none, he⟩, hit, Nat.succ_ne_self _⟩, low, q⟩
theorem it_enumT {K : PySem.W.Frag} {S : Hp} {a : Addr} {xs : List V} {ds : List D} (h : SqT K S a xs) (r : RpAll K S xs ds) : ItOk K (ItET K a) S (enumL 0 ds) := by
  refine ⟨fun H => SqT K H a xs, fun i H v H' => ∃ T x, v = .ref T ∧ H T = none ∧ H' = upd H T (.tup [.int (i : Nat), x]) ∧ xs[i]? = some x, ⟨fun i H hi g => ?_, fun H g => ⟨xs, g, by rw [enumL_length, r.length]; exact Nat.le_refl _⟩, fun i H x H' hi g y => ?_⟩, fun H m => Same.seqT m h, fun i H x H' d S2 y e m1 m2 => ?_⟩
  · rw [enumL_length, ← r.length] at hi
    exact ⟨xs, xs[i], g, List.getElem?_eq_getElem hi⟩
  · obtain ⟨T, v, e1, e2, e3, k⟩ := y
    exact ⟨T, v, e1, e2, e3, k xs g⟩
  · obtain ⟨T, v, rfl, hT, rfl, hv⟩ := y
    rw [enumL_get] at e
    cases e2 : ds[i]? with
    | none => rw [e2] at e; cases e
    | some d0 =>
      rw [e2] at e
      cases e
      obtain ⟨z, h1, h2⟩ := r.get e2
      rw [h1] at hv
      obtain rfl := Option.some.inj hv
      have ex := Ext.mk1 m2 hT (.tup [.int (i : Nat), z])
      refine ⟨_, ex, .tup (SqT.of upd_same) (.cons ?_ (.cons ((h2.mono m1).mono ex.ss) .nil))⟩
      rw [Nat.zero_add]
      exact .int _
def enI (f : Ev) : Ea := fun ρ => (stE f ρ).bind fun d => ofO ((seqO d).map (enumL 0))
section
variable {X : Cx} {W : WX} {e : Expr} {f : Ev} {p pos tpos : Pos} {elts : List Expr} {kk : Nat}
theorem i_enum (hm : X.mg "enumerate" = none) (he : PE X e (T X.K W f)) (hg : Gl X "enumerate" := by rfl) (h1 : starEach [e] X.env = (false, eval e X.env) :: starEach [] X.env := by rfl) (hs : starEach [e] X.env = [(false, eval e X.env)] := by rfl) :
    PI X (.Tuple elts kk tpos) (.Call (.Name "enumerate" p) [e] [] pos) (TIs X.K W (enI f)) := PI.imp (pi_enA hg hm (pa_cons he pa_nil h1) hs) fun σ H R q => by
  obtain ⟨S0, H0, S, ρ, Re, p⟩ := q
  refine t_stE ⟨S0, H0, S, ρ, Re, ?_⟩
  unfold enI at p
  cases e : stE f ρ with
  | err x => rw [e] at p; exact p
  | st => rw [e] at p; exact p
  | ok d =>
    rw [e] at p
    obtain ⟨d0, _, hd⟩ := stE_ok e
    intro v S1 H1 ex r
    have r := settle_rp hd r
    simp only [bind_ok] at p
    cases d with
    | tup ds =>
      cases r with
      | tup h1 q => exact ⟨_, _, rfl, .inr ⟨Same.seqT ex.sh h1, p _ S1 H1 ex (it_enumT h1 q)⟩⟩
    | lst ds =>
      cases r with
      | lst h1 q => exact ⟨_, _, rfl, .inl ⟨SqL.of (ex.sh _ _ h1), p _ S1 H1 ex (it_enum h1 q)⟩⟩
    | _ => exact p.elim
end
end DL

end
section
set_option autoImplicit true
namespace DL
open PySem L2

/-! ### what is no longer needed is forgotten; while loops that choose their own number of turns; loops as folds -/
def wpO (vs : List Nat) : Out → Out
  | .nx ρ => .nx (wipeR ρ vs)
  | .bk ρ => .bk (wipeR ρ vs)
  | .ct ρ => .ct (wipeR ρ vs)
  | .er x ρ => .er x (wipeR ρ vs)
  | o => o
def wpS (vs : List Nat) (f : Es) : Es := fun ρ => wpO vs (f ρ)
theorem wipeR_at (ρ : Rho) : ∀ (vs : List Nat) (i : Nat) (s : Slot), (wipeR ρ vs)[i]? = some s → s = .un ∨ ρ[i]? = some s
  | [], _, _, h => .inr h
  | v :: vs, i, s, h => by
    rw [wipeR] at h
    by_cases hv : v = i
    · subst hv
      have hl : v < (wipeR ρ vs).length := by
        have := (List.getElem?_eq_some_iff.mp h).1
        rwa [List.length_set] at this
      rw [List.getElem?_set_self hl] at h
      cases h
      exact .inl rfl
    · rw [List.getElem?_set_ne hv] at h
      exact wipeR_at ρ vs i s h
theorem Rel.wp {K : PySem.W.Frag} {S0 H0 S H : Hp} {σ : St} {ρ : Rho} (R : Rel K S0 H0 S H σ ρ) (vs : List Nat) : Rel K S0 H0 S H σ (wipeR ρ vs) :=
  R.weak (wipeR_length ρ vs) (wipeR_at ρ vs)
theorem PostS.wp {K : PySem.W.Frag} {W : WX} {S0 H0 : Hp} {D : Ends} {vs : List Nat} : ∀ {o : Out}, PostS K W S0 H0 D (wpO vs o) → PostS K W S0 H0 D o
  | .nx _, p => fun σ S H R => p σ S H (R.wp vs)
  | .bk _, p => fun σ S H R => p σ S H (R.wp vs)
  | .ct _, p => fun σ S H R => p σ S H (R.wp vs)
  | .rt _, p => p
  | .er _ _, p => fun dd σ S H R x => p dd σ S H (R.wp vs) x
  | .st, p => p
section
variable {X : Cx} {W : WX} {st : Stmt} {sts : List Stmt} {f : Es}
theorem s_wp {vs : List Nat} (h : PS X st (TSt X.K W f)) : PS X st (TSt X.K W (wpS vs f)) := PS.imp h fun D σ H ⟨S0, H0, S, ρ, R, p⟩ => ⟨S0, H0, S, ρ, R, p.wp⟩
theorem ss_wp {vs : List Nat} (h : PSs X sts (TSt X.K W f)) : PSs X sts (TSt X.K W (wpS vs f)) := PSs.imp h fun D σ H ⟨S0, H0, S, ρ, R, p⟩ => ⟨S0, H0, S, ρ, R, p.wp⟩
end
section
variable {X : Cx} {W : WX} {sts : List Stmt} {g : Es}
theorem ss_frz {i : Nat} (h1 : PSs X sts (TSt X.K W g)) : PSs X sts (TSt X.K W (frzS i g)) := PSs.imp h1 fun D σ H q => by
  obtain ⟨S0, H0, S, ρ, R, p⟩ := q
  unfold frzS at p
  cases e : ρ[i]? with
  | none => rw [e] at p; exact ⟨S0, H0, S, ρ, R, p⟩
  | some s =>
    rw [e] at p
    cases s with
    | own ds =>
      obtain ⟨S', R', _⟩ := R.freeze e
      exact ⟨S0, H0, S', _, R', p⟩
    | un => exact ⟨S0, H0, S, ρ, R, p⟩
    | exc a => exact ⟨S0, H0, S, ρ, R, p⟩
    | ob l C fs => exact ⟨S0, H0, S, ρ, R, p⟩
    | v d => exact ⟨S0, H0, S, ρ, R, p⟩
end
theorem frz_ok {i : Nat} {ds : List D} {g : Es} {ρ : Rho} {o : Out} (h : ρ[i]? = some (.own ds)) (hg : g (ρ.set i (.v (.lst ds))) = o) : frzS i g ρ = o := by
  unfold frzS
  rw [h]
  exact hg
theorem at_wp {vs : List Nat} {f : Es} {ρ : Rho} : wpS vs f ρ = wpO vs (f ρ) := id rfl
theorem wp_nx {vs : List Nat} {ρ : Rho} : wpO vs (.nx ρ) = .nx (wipeR ρ vs) := id rfl
theorem wp_bk {vs : List Nat} {ρ : Rho} : wpO vs (.bk ρ) = .bk (wipeR ρ vs) := id rfl
theorem wp_ct {vs : List Nat} {ρ : Rho} : wpO vs (.ct ρ) = .ct (wipeR ρ vs) := id rfl
theorem wp_er {vs : List Nat} {x : Ex} {ρ : Rho} : wpO vs (.er x ρ) = .er x (wipeR ρ vs) := id rfl
theorem wp_rt {vs : List Nat} {d : D} : wpO vs (.rt d) = .rt d := id rfl

/-! while: as many turns as it takes -/
noncomputable def whN (c : Eb) (b : Es) : Rho → Nat := fun ρ => Classical.epsilon fun n => whO c b n ρ ≠ .st
noncomputable def whX (c : Eb) (b : Es) : Es := whS (whN c b) c b
theorem whO_mono {c : Eb} {b : Es} : ∀ (n m : Nat) (ρ : Rho), whO c b n ρ ≠ .st → n ≤ m → whO c b m ρ = whO c b n ρ
  | 0, _, ρ, h, _ => absurd (by rw [whO]) h
  | n + 1, 0, ρ, h, hm => absurd hm (by omega)
  | n + 1, m + 1, ρ, h, hm => by
    rw [whO] at h ⊢
    rw [whO]
    cases hc : c ρ with
    | ok k =>
      rw [hc] at h
      cases k with
      | true =>
        simp only [if_true] at h ⊢
        cases hb : b ρ with
        | nx ρ2 => rw [hb] at h; exact whO_mono n m ρ2 h (by omega)
        | ct ρ2 => rw [hb] at h; exact whO_mono n m ρ2 h (by omega)
        | bk ρ2 => rfl
        | rt d => rfl
        | er x ρ2 => rfl
        | st => rfl
      | false => rfl
    | err x => rfl
    | st => rfl
theorem at_whX {c : Eb} {b : Es} {n : Nat} {ρ : Rho} {o : Out} (h : whO c b n ρ = o) (ho : o ≠ .st) : whX c b ρ = o := by
  have hn : whO c b n ρ ≠ .st := by rw [h]; exact ho
  have he : whO c b (whN c b ρ) ρ ≠ .st := Classical.epsilon_spec (p := fun n => whO c b n ρ ≠ .st) ⟨n, hn⟩
  show whO c b (whN c b ρ) ρ = o
  rw [← h]
  rcases Nat.le_total n (whN c b ρ) with q | q
  · exact whO_mono n _ ρ hn q
  · exact (whO_mono _ n ρ he q).symm
theorem at_whX_nx {c : Eb} {b : Es} (n : Nat) {ρ ρ' : Rho} (h : whO c b n ρ = .nx ρ') : whX c b ρ = .nx ρ' := at_whX h (by intro q; cases q)
/-- a while loop whose turns are a function's -/
theorem wh_iter {α : Type} {c : Eb} {b : Es} (Sx : α → Rho) (go : α → Bool) (step : α → α) (I : α → Prop) (μ : α → Nat)
    (hc : ∀ x, I x → c (Sx x) = .ok (go x)) (hb : ∀ x, I x → go x = true → b (Sx x) = .nx (Sx (step x)) ∧ I (step x) ∧ μ (step x) < μ x) :
    ∀ (n : Nat) (x : α), I x → μ x < n → ∃ y, whO c b n (Sx x) = .nx (Sx y) ∧ I y ∧ go y = false ∧ ∃ k, y = Nat.repeat step k x
  | 0, x, _, h => absurd h (Nat.not_lt_zero _)
  | n + 1, x, i, h => by
    rw [whO, hc x i]
    cases hg : go x with
    | false => exact ⟨x, by simp, i, hg, 0, rfl⟩
    | true =>
      obtain ⟨h1, h2, h3⟩ := hb x i hg
      obtain ⟨y, g1, g2, g3, k, g4⟩ := wh_iter Sx go step I μ hc hb n (step x) h2 (by omega)
      refine ⟨y, by simp only [if_true, h1]; exact g1, g2, g3, k + 1, ?_⟩
      rw [g4]
      clear g4 g1
      induction k with
      | zero => rfl
      | succ k ih => rw [Nat.repeat, ih]; rfl
/-- a for loop as a fold; the invariant knows what is still to come -/
theorem for_fold {α : Type} {G : D → Rho → Option Rho} {b : Es} (Sx : α → Rho) (step : α → D → α) (I : List D → α → Prop)
    (h : ∀ x d ds, I (d :: ds) x → ∃ ρ1, G d (Sx x) = some ρ1 ∧ (b ρ1 = .nx (Sx (step x d)) ∨ b ρ1 = .ct (Sx (step x d))) ∧ I ds (step x d)) :
    ∀ (ds : List D) (x : α), I ds x → forO G b ds (Sx x) = .nx (Sx (ds.foldl step x)) ∧ I [] (ds.foldl step x)
  | [], x, i => ⟨rfl, i⟩
  | d :: ds, x, i => by
    obtain ⟨ρ1, h1, h2, h3⟩ := h x d ds i
    have ih := for_fold Sx step I h ds (step x d) h3
    refine ⟨?_, ih.2⟩
    rw [forO, h1]
    rcases h2 with h2 | h2 <;> simp only [h2] <;> exact ih.1
/-- a for loop over ints, as a fold -/
theorem for_foldi {α : Type} {G : D → Rho → Option Rho} {b : Es} (Sx : α → Rho) (step : α → Int → α) (I : List Int → α → Prop)
    (h : ∀ x d ds, I (d :: ds) x → ∃ ρ1, G (.int d) (Sx x) = some ρ1 ∧ (b ρ1 = .nx (Sx (step x d)) ∨ b ρ1 = .ct (Sx (step x d))) ∧ I ds (step x d)) :
    ∀ (ds : List Int) (x : α), I ds x → forO G b (il ds) (Sx x) = .nx (Sx (ds.foldl step x)) ∧ I [] (ds.foldl step x)
  | [], x, i => ⟨rfl, i⟩
  | d :: ds, x, i => by
    obtain ⟨ρ1, h1, h2, h3⟩ := h x d ds i
    have ih := for_foldi Sx step I h ds (step x d) h3
    refine ⟨?_, ih.2⟩
    rw [show il (d :: ds) = .int d :: il ds from rfl, forO, h1]
    rcases h2 with h2 | h2 <;> simp only [h2] <;> exact ih.1
theorem at_retF {f : Ev} {ρ : Rho} : retF f ρ = (f ρ).then ρ rtF := id rfl
theorem rtF_new {ds : List D} : rtF (.new ds) = .rt (.new ds) := id rfl
theorem rtF_lst {ds : List D} : rtF (.lst ds) = .rt (.lst ds) := id rfl
theorem rtF_tup {ds : List D} : rtF (.tup ds) = .rt (.tup ds) := id rfl
theorem rtF_int {i : Int} : rtF (.int i) = .rt (.int i) := id rfl
theorem rtF_str {s : Str} : rtF (.str s) = .rt (.str s) := id rfl
theorem rtF_bl {b : Bool} : rtF (.bl b) = .rt (.bl b) := id rfl
theorem rtF_non : rtF .non = .rt .non := id rfl
theorem rtF_frz {ns : List Int} : rtF (.frz ns) = .rt (.frz ns) := id rfl
theorem rtF_obj {C : Addr} {fs : List (Str × D)} : rtF (.obj C fs) = .rt (.obj C fs) := id rfl
def rN (s : Option Slot) : Out := match s with | some (.own ds) => .rt (.new ds) | _ => .st
theorem rN_own {ds : List D} : rN (some (.own ds)) = .rt (.new ds) := id rfl
theorem at_retOwnN {i : Nat} {ρ : Rho} : retOwnN i ρ = rN ρ[i]? := id rfl
theorem sumA_tup {ns : List Int} : sumA (.tup (il ns)) = some (.int ns.sum) := by
  show (D.asInts (il ns)).map _ = _
  rw [asInts_ints]; rfl
theorem sumA_new {ns : List Int} : sumA (.new (il ns)) = some (.int ns.sum) := by
  show (D.asInts (il ns)).map _ = _
  rw [asInts_ints]; rfl
theorem sumA_lst {ns : List Int} : sumA (.lst (il ns)) = some (.int ns.sum) := by
  show (D.asInts (il ns)).map _ = _
  rw [asInts_ints]; rfl
theorem gN_at {i : Nat} {d : D} {ρ : Rho} : gN i d ρ = some (ρ.set i (.v d)) := id rfl
end DL

end
section
set_option autoImplicit false
namespace DL
open PySem PySem.Spec PyProof.Rows L2 StX

/-! ### list(zip(*rows)): the list of the new tuples -/
theorem nolen_zip : typeLookup (.type "zip") "__len__" = pure none := by kernel_rfl
theorem nohint_zip : typeLookup (.type "zip") "__length_hint__" = pure none := by kernel_rfl
/-- what the drawing of i tuples leaves: the tuples stand one behind another from m on -/
structure Zd (h0 : Heap) (z TI TO S : Addr) (Z : List ZI) (col : Nat → List Value) (m i : Nat) (acc : Array Value) (h : Heap) : Prop where
  tn : ZTn z TI TO Z i h
  size : h.objs.size = m + i
  tup : ∀ j, j < i → TupAt h (m + j) (col j)
  ac : acc = ((List.range i).map fun j => Value.ref (m + j)).toArray
  lst : ∃ c, h.get? S = some { cls := .type "list", dict := none, data := .seq acc c, slots := #[] }
  keep : ∀ b o, b ≠ z → b ≠ TO → b ≠ S → (∀ e ∈ Z, b ≠ e.it) → h0.get? b = some o → h.get? b = some o
section
variable {prog : Program} {w : World} {A : Around} {R : Result → Shared → Prop}
theorem zip_loop {h0 : Heap} {z TI TO S : Nat} {Z : List ZI} {col : Nat → List Value} {m n : Nat} {res : Value} (hh : A.handled = none) (D : ZAp z TI TO Z) (ne : Z ≠ []) (hl : Z.length ≤ sizeLine) (hn : n ≤ sizeLine)
    (hcl : ∀ j, j < n → (col j).length = Z.length) (hcv : ∀ j, j < n → ∀ (k : Nat) (e : ZI), Z[k]? = some e → ∃ x, e.xs[j]? = some x ∧ (col j)[k]? = some x) (hend : ∃ e ∈ Z, e.xs[n]? = none)
    (hSz : S ≠ z) (hSTI : S ≠ TI) (hSTO : S ≠ TO) (hSi : ∀ e ∈ Z, S ≠ e.it) (hlS : ∀ e ∈ Z, e.l ≠ S) (hm0 : z < m ∧ TO < m ∧ S < m ∧ ∀ e ∈ Z, e.it < m) (hl0 : ∀ e ∈ Z, e.Seq h0) :
    ∀ (k i : Nat) (s : Shared) (acc : Array Value), n - i = k → i ≤ n → Zd h0 z TI TO S Z col m i acc s.heap →
    (∀ h' acc', Zd h0 z TI TO S Z col m n acc' h' ∨ (∃ h1, Zd h0 z TI TO S Z col m n acc' h1 ∧ (∀ b o, b ≠ z → b ≠ TO → (∀ e ∈ Z, b ≠ e.it) → h1.get? b = some o → h'.get? b = some o)) → R (.ok (.ret res)) { s with heap := h' }) →
    codeAny (model prog w) A (.builtin "list.extend.loop" ⟨[.ref S, .ref z, res], []⟩) R s := by
  intro k
  have hSeq : ∀ {h acc i}, Zd h0 z TI TO S Z col m i acc h → ∀ e ∈ Z, e.Seq h := fun {h acc i} d e me =>
    (hl0 e me).keep fun o q => d.keep e.l o (D.lz e me).1 (D.lz e me).2.2 (hlS e me) (fun f mf => D.li e me f mf) q
  induction k with
  | zero =>
    intro i s acc hk hi d hR
    have hin : i = n := by omega
    subst hin
    refine codeAny_builtin F.entry_extend_loop ?_
    rw [Around.under_plainId F.plain_extend_loop _]
    show wpAny _ A.in1 (pyNext (.ref z) >>= _) _ _ s
    refine wpAny_bind (zip_stop (A := A.in1) hh D ne d.tn (hSeq d) hl hend fun h' kp => ?_)
    exact wpAny_pure (hR h' acc (.inr ⟨s.heap, d, kp⟩))
  | succ k ih =>
    intro i s acc hk hi d hR
    have hlt : i < n := by omega
    refine codeAny_builtin F.entry_extend_loop ?_
    rw [Around.under_plainId F.plain_extend_loop _]
    show wpAny _ A.in1 (pyNext (.ref z) >>= _) _ _ s
    refine wpAny_bind (zip_item (A := A.in1) D ne d.tn (hSeq d) (hcl i hlt) (hcv i hlt) hl fun h' t1 t2 t3 t4 => ?_)
    obtain ⟨c, hS⟩ := d.lst
    have hS' := t4 S _ hSz hSTO hSi hS
    show wpAny _ A.in1 (updateSeq S (·.push (.ref s.heap.objs.size)) >>= _) _ _ _
    have sz : acc.size = i := by rw [d.ac, List.size_toArray, List.length_map, List.length_range]
    refine wpAny_bind (wpAny_updateSeq hS' rfl (wpAny_pure ⟨plainId_quiet F.plain_extend_loop _, ih (i + 1) _ (acc.push (.ref s.heap.objs.size)) (by omega) hlt ?_ fun h'' acc' hd => ?_⟩) (by rw [sz]; omega) (by show (acc.push _).size ≤ sizeLine + 1; rw [Array.size_push, sz]; omega))
    · have oth : ∀ b o, b ≠ S → h'.get? b = some o → (h'.update S (Obj.mapSeq (·.push (.ref s.heap.objs.size)))).get? b = some o := fun b o hb e => (Heap.get?_update_other _ _ (Ne.symm hb)).trans e
      have nS : ∀ j, m + j ≠ S := fun j q => by have h3 : S < m := hm0.2.2.1; omega
      refine ⟨?_, ?_, fun j hj => ?_, ?_, ⟨_, Heap.get?_update_self _ hS' rfl⟩, fun b o b1 b2 b3 b4 q => oth b o b3 (t4 b o b1 b2 b4 (d.keep b o b1 b2 b3 b4 q))⟩
      · obtain ⟨f0, b, ws, hz, hf, hTI, hTO, hw, hat⟩ := t1
        exact ⟨f0, b, ws, oth _ _ (Ne.symm hSz) hz, hf, oth _ _ (Ne.symm hSTI) hTI, oth _ _ (Ne.symm hSTO) hTO, hw, fun e me => (hat e me).keep fun o q => oth _ o (Ne.symm (hSi e me)) q⟩
      · rw [Heap.size_update]
        show h'.objs.size = m + (i + 1)
        rw [t3, d.size]; omega
      · rcases Nat.lt_succ_iff_lt_or_eq.mp hj with hj | rfl
        · refine oth _ _ (nS j) (t4 _ _ ?_ ?_ ?_ (d.tup j hj))
          · have h3 : z < m := hm0.1; exact ne_of (by omega)
          · have h3 : TO < m := hm0.2.1; exact ne_of (by omega)
          · intro e me; have h3 : @LT.lt Nat _ e.it m := hm0.2.2.2 e me; exact ne_of (by omega)
        · have e : s.heap.objs.size = m + j := d.size
          rw [e] at t2
          exact oth _ _ (nS j) t2
      · rw [d.ac, List.range_succ, List.map_append]
        have e : s.heap.objs.size = m + i := d.size
        rw [e]
        simp
    · refine hR h'' acc' hd
theorem zip_self {E : Value → Shared → Prop} {s : Shared} {z TI TO : Nat} {Z : List ZI} {i : Nat} {Q : Value → Shared → Prop} (tn : ZTn z TI TO Z i s.heap) (h : Q (.ref z) s) : wpAny (model prog w) A (pyIter (.ref z)) Q E s := by
  obtain ⟨f0, f1, ws, hz, _⟩ := tn
  have ty : s.TypeIs (.ref z) "zip" := ⟨_, hz, rfl⟩
  apply wpAny_pyIter_slot ty F.slot_zip_iter
  apply wpAny_call_entry F.slot_zip_iter ty F.entry_zip_iter ?_ (F.args_zip_iter_1 _)
  show wpAny _ _ (ret (.ref z)) _ _ s
  exact wpAny_pure ⟨_, rfl, "zip", _, ty, F.slot_zip_next.lookup, h⟩
theorem ztn_keep {z TI TO : Nat} {Z : List ZI} {i : Nat} {h h' : Heap} (tn : ZTn z TI TO Z i h) (k : ∀ b, (b = z ∨ b = TI ∨ b = TO ∨ ∃ e ∈ Z, b = e.it) → ∀ o, h.get? b = some o → h'.get? b = some o) : ZTn z TI TO Z i h' := by
  obtain ⟨f0, b, ws, hz, hf, hTI, hTO, hw, hat⟩ := tn
  exact ⟨f0, b, ws, k _ (.inl rfl) _ hz, hf, k _ (.inr (.inl rfl)) _ hTI, k _ (.inr (.inr (.inl rfl))) _ hTO, hw, fun e me => (hat e me).keep fun o q => k _ (.inr (.inr (.inr ⟨e, me, rfl⟩))) o q⟩
/-- list(z): S, the new list, is the first new object, the tuples stand behind it -/
theorem list_zip {E : Value → Shared → Prop} {s : Shared} {z TI TO : Nat} {Z : List ZI} {col : Nat → List Value} {n : Nat} {Q : Value → Shared → Prop} (hh : A.handled = none) (D : ZAp z TI TO Z) (ne : Z ≠ []) (hl : Z.length ≤ sizeLine) (hn : n ≤ sizeLine)
    (tn : ZTn z TI TO Z 0 s.heap) (hl0 : ∀ e ∈ Z, e.Seq s.heap)
    (hcl : ∀ j, j < n → (col j).length = Z.length) (hcv : ∀ j, j < n → ∀ (k : Nat) (e : ZI), Z[k]? = some e → ∃ x, e.xs[j]? = some x ∧ (col j)[k]? = some x) (hend : ∃ e ∈ Z, e.xs[n]? = none)
    (hQ : ∀ h', (∀ b o, b ≠ z → b ≠ TO → (∀ e ∈ Z, b ≠ e.it) → s.heap.get? b = some o → h'.get? b = some o) →
      (∃ c, h'.get? s.heap.objs.size = some { cls := .type "list", dict := none, data := .seq ((List.range n).map fun j => Value.ref (s.heap.objs.size + 1 + j)).toArray c, slots := #[] }) →
      (∀ j, j < n → TupAt h' (s.heap.objs.size + 1 + j) (col j)) → Q (.ref s.heap.objs.size) { s with heap := h' }) :
    wpAny (model prog w) A (call (.type "list") [.ref z]) Q E s := by
  obtain ⟨gf, gb, gw, gz, gf', gTI, gTO, gw', gat⟩ := id tn
  have zlt : z < s.heap.objs.size := Heap.lt_size (show s.heap.get? z = some _ from gz)
  have TIlt : TI < s.heap.objs.size := Heap.lt_size (show s.heap.get? TI = some _ from gTI)
  have TOlt : TO < s.heap.objs.size := Heap.lt_size (show s.heap.get? TO = some _ from gTO)
  have itlt : ∀ e ∈ Z, e.it < s.heap.objs.size := fun e me => by
    rcases gat e me with ⟨_, o, ho, _⟩ | ⟨_, o, ho, _⟩ <;> exact Heap.lt_size ho
  have llt : ∀ e ∈ Z, e.l < s.heap.objs.size := fun e me => by
    rcases hl0 e me with ⟨_, o, ho, _⟩ | ⟨_, o, ho, _⟩ <;> exact Heap.lt_size ho
  refine callType_codes (Q₁ := fun obj s₁ => obj = .ref s.heap.objs.size ∧ s₁ = { s with heap := s.heap.push { cls := .type "list", data := .seq #[] } }) F.called_list (F.typeCall_list_1 _) F.entry_list_init
    (code_list_new _ ⟨rfl, rfl⟩) fun obj s₁ h₁ => ?_
  obtain ⟨rfl, rfl⟩ := h₁
  have hS : (s.heap.push { cls := .type "list", data := .seq #[] }).get? s.heap.objs.size = some { cls := .type "list", data := .seq #[] } := Heap.get?_push_size _ rfl
  refine ⟨⟨_, hS, rfl⟩, F.args_list_init_2 _ _, ?_⟩
  have zty : ∀ {h' : Heap} {i : Nat}, ZTn z TI TO Z i h' → ({ s with heap := h' } : Shared).TypeIs (.ref z) "zip" := fun q => by
    obtain ⟨f0, b, ws, hz, _⟩ := q
    exact ⟨_, hz, rfl⟩
  have low : ∀ b, (b = z ∨ b = TI ∨ b = TO ∨ ∃ e ∈ Z, b = e.it) → b ≠ s.heap.objs.size := fun b hb q => by
    rcases hb with rfl | rfl | rfl | ⟨e, me, rfl⟩
    · exact Nat.lt_irrefl _ (q ▸ zlt)
    · exact Nat.lt_irrefl _ (q ▸ TIlt)
    · exact Nat.lt_irrefl _ (q ▸ TOlt)
    · exact absurd (itlt e me) (by rw [q]; exact Nat.lt_irrefl _)
  have k1 : ∀ b o, s.heap.get? b = some o → (s.heap.push { cls := .type "list", data := .seq #[] }).get? b = some o := fun b o e => Heap.get?_push_of_some _ e
  have oth : ∀ (h1 : Heap) (f : Array Value → Array Value) b o, b ≠ s.heap.objs.size → h1.get? b = some o → (h1.update s.heap.objs.size (Obj.mapSeq f)).get? b = some o := fun h1 f b o hb e => (Heap.get?_update_other _ _ (Ne.symm hb)).trans e
  show wpAny _ A.in1.in1 (do let old ← Builtin.List.listItems (.ref s.heap.objs.size); Builtin.List.listUpdate (.ref s.heap.objs.size) (fun _ => #[]); letGo old.toList.reverse; Builtin.List.listExtendWith (.ref s.heap.objs.size) (.ref z) .none) _ _ _
  refine wpAny_bind ?_
  unfold Builtin.List.listItems
  refine wpAny_bind (wpAny_seqItems hS rfl (wpAny_pure ?_))
  show wpAny _ A.in1.in1 (updateSeq s.heap.objs.size (fun _ => #[]) >>= fun _ => letGo (#[] : Array Value).toList.reverse >>= fun _ => Builtin.List.listExtendWith (.ref s.heap.objs.size) (.ref z) .none) _ _ _
  refine wpAny_bind (wpAny_updateSeq hS rfl ?_)
  have hS₂ := Heap.get?_update_self (Obj.mapSeq (fun _ => (#[] : Array Value))) hS rfl
  refine wpAny_bind (wpAny_letGo ?_)
  have tn1 : ZTn z TI TO Z 0 ((s.heap.push { cls := .type "list", data := .seq #[] }).update s.heap.objs.size (Obj.mapSeq (fun _ => #[]))) := ztn_keep tn fun b hb o q => oth _ _ b o (low b hb) (k1 b o q)
  unfold Builtin.List.listExtendWith
  refine wpAny_bind (wpAny_typeOf (zty tn1) ?_)
  have h1 : Builtin.List.listSameRef (.ref s.heap.objs.size) (.ref z) = false := by simp [Builtin.List.listSameRef, Nat.ne_of_gt zlt]
  have h2 : (Value.type "zip" == Value.type "list") = false := by decide
  have h3 : (Value.type "zip" == Value.type "tuple") = false := by decide
  simp only [h1, h2, h3, Bool.or_false, Bool.false_eq_true, if_false]
  refine wpAny_bind (zip_self tn1 ?_)
  refine wpAny_bind (wpAny_holding ?_)
  unfold Builtin.List.listLengthHint
  refine wpAny_bind (wpAny_specialOf (zty tn1) nolen_zip ?_)
  show wpAny _ A.in1.in1 (specialOf (Value.ref z) (Str.ofString "__length_hint__") >>= _) _ _ _
  refine wpAny_bind (wpAny_specialOf (zty tn1) nohint_zip ?_)
  refine wpAny_pure ?_
  show wpAny _ A.in1.in1 (rule "list.extend.makes-room" >>= fun _ => Builtin.List.listTouch (.ref s.heap.objs.size) >>= fun _ =>
    again (.builtin "list.extend.loop" ⟨[.ref s.heap.objs.size, .ref z, .none], []⟩)) _ _ _
  refine wpAny_bind (wpAny_rule ?_)
  refine wpAny_bind ?_
  show wpAny _ A.in1.in1 (updateSeq s.heap.objs.size (·.push .none) >>= fun _ => updateSeq s.heap.objs.size (·.pop)) _ _ _
  refine wpAny_bind (wpAny_updateSeq hS₂ rfl ?_)
  have hS₃ := Heap.get?_update_self (Obj.mapSeq (·.push Value.none)) hS₂ rfl
  refine wpAny_updateSeq hS₃ rfl ?_
  have hS₄ := Heap.get?_update_self (Obj.mapSeq (·.pop)) hS₃ rfl
  generalize hH : (((s.heap.push { cls := .type "list", data := .seq #[] }).update s.heap.objs.size (Obj.mapSeq (fun _ => (#[] : Array Value)))).update s.heap.objs.size (Obj.mapSeq (·.push Value.none))).update s.heap.objs.size (Obj.mapSeq (·.pop)) = h4 at hS₄
  have nS : ∀ b o, s.heap.get? b = some o → b ≠ s.heap.objs.size := fun b o q e => absurd (Heap.lt_size q) (by rw [e]; exact Nat.lt_irrefl _)
  have k4 : ∀ b o, b ≠ s.heap.objs.size → s.heap.get? b = some o → h4.get? b = some o := fun b o hb q => by rw [← hH]; exact oth _ _ b o hb (oth _ _ b o hb (oth _ _ b o hb (k1 b o q)))
  have sz4 : h4.objs.size = s.heap.objs.size + 1 := by rw [← hH, Heap.size_update, Heap.size_update, Heap.size_update, Heap.size_push]
  have st : ∃ c, h4.get? s.heap.objs.size = some { cls := .type "list", dict := none, data := .seq #[] c, slots := #[] } := ⟨_, hS₄⟩
  have d0 : Zd s.heap z TI TO s.heap.objs.size Z col (s.heap.objs.size + 1) 0 #[] h4 :=
    ⟨ztn_keep tn fun b hb o q => k4 b o (low b hb) q, sz4, fun j hj => absurd hj (Nat.not_lt_zero j), rfl, st, fun b o _ _ b3 _ q => k4 b o b3 q⟩
  refine wpAny_pure ⟨plainId_quiet F.plain_extend_loop _, ?_⟩
  show codeAny _ _ _ _ { s with heap := h4 }
  refine zip_loop (A := A.in1) (m := s.heap.objs.size + 1) hh D ne hl hn hcl hcv hend (Nat.ne_of_gt zlt) (Nat.ne_of_gt TIlt) (Nat.ne_of_gt TOlt) (fun e me => Nat.ne_of_gt (itlt e me)) (fun e me => Nat.ne_of_lt (llt e me))
    ⟨Nat.lt_succ_of_lt zlt, Nat.lt_succ_of_lt TOlt, Nat.lt_succ_self _, fun e me => Nat.lt_succ_of_lt (itlt e me)⟩ hl0 n 0 { s with heap := h4 } #[] rfl (Nat.zero_le _) d0 fun h' acc' hd => ?_
  rcases hd with d | ⟨hx, d, kp⟩
  · refine ⟨rfl, hQ h' (fun b o b1 b2 b4 q => d.keep b o b1 b2 (nS b o q) b4 q) ?_ d.tup⟩
    obtain ⟨c, hc⟩ := d.lst
    rw [d.ac] at hc
    exact ⟨c, hc⟩
  · refine ⟨rfl, hQ h' (fun b o b1 b2 b4 q => kp b o b1 b2 b4 (d.keep b o b1 b2 (nS b o q) b4 q)) ?_ fun j hj => ?_⟩
    · obtain ⟨c, hc⟩ := d.lst
      rw [d.ac] at hc
      exact ⟨c, kp _ _ (Nat.ne_of_gt zlt) (Nat.ne_of_gt TOlt) (fun e me => Nat.ne_of_gt (itlt e me)) hc⟩
    · refine kp _ _ ?_ ?_ ?_ (d.tup j hj)
      · exact ne_of (by omega)
      · exact ne_of (by omega)
      · intro e me; have h3 : @LT.lt Nat _ e.it s.heap.objs.size := itlt e me; exact ne_of (by omega)
end
end DL

end
section
set_option autoImplicit false
namespace DL
open PySem PySem.Spec PyProof.Rows L2 StX

/-- several new objects are laid and tracked at once -/
theorem laidS {X : Cx} {pins : List (Addr × Obj)} {σ : L2.St} {H H' : Hp} {s : Shared} {h' : Heap} {t' : Nat} (I : Inv X pins σ H s) (k : ∀ b u, s.heap.get? b = some u → h'.get? b = some u) (old : ∀ b o, H b = some o → H' b = some o)
    (low : ∀ b : Nat, b < s.heap.objs.size → H b = none → H' b = none) (nw : ∀ b o, H' b = some o → H b = some o ∨ ObjOk X.prog X.w H' h' b o) : Inv X pins σ H' { s with heap := h', toks := t' } := by
  refine I.un ⟨fun b o q _ _ _ => k b o q, fun b o q _ _ _ => ⟨o.slots, k b o q⟩, fun b o q n _ => low b (Heap.lt_size q) n, fun b o q _ => ⟨o, k b o q⟩, fun b xs e => old b _ e, fun b o u e => old b _ e, fun b ps e => ⟨#[], by rw [old b _ e]; simp⟩⟩ ?_
  intro b o e
  rcases nw b o e with q | q
  · exact (I.hok b o q).stay (fun c v _ z => k c v z) (fun c z => old c _ z) fun c xs z => old c _ z
  · exact q
def vcol (xa xb xc xd : List V) (j : Nat) : List V := [xa.getD j .non, xb.getD j .non, xc.getD j .non, xd.getD j .non]
/-- the heap with the new list at S and the new tuples behind it -/
def Hz (H : Hp) (S n : Nat) (vc : Nat → List V) : Hp := fun b : Nat => if b = S then some (.lst ((List.range n).map fun j => V.ref (S + 1 + j))) else if S + 1 ≤ b ∧ b < S + 1 + n then some (.tup (vc (b - (S + 1)))) else H b
def tLZ4 (K : PySem.W.Frag) (te : TE) : TE := fun σ H Q => te σ H fun y H1 => ∃ (q a b c d : Addr) (xa xb xc xd : List V), y = .ref q ∧ (SqT K H1 q [.ref a, .ref b, .ref c, .ref d] ∨ SqL K H1 q [.ref a, .ref b, .ref c, .ref d]) ∧
  (SqT K H1 a xa ∧ SqT K H1 b xb ∧ SqT K H1 c xc ∧ SqT K H1 d xd) ∧ ∀ S : Nat, (∀ j : Nat, H1 (S + j) = none) → Q (.ref S) (Hz H1 S (min (min xa.length xb.length) (min xc.length xd.length)) (vcol xa xb xc xd))
theorem vals_getD {xs : List V} {us : List Value} (r : Vals xs us) {j : Nat} (h : j < xs.length) : RelV (xs.getD j .non) (us.getD j .none) := by
  have e1 : xs[j]? = some xs[j] := List.getElem?_eq_getElem h
  obtain ⟨u, h2, h3⟩ := r.get e1
  rw [List.getD_eq_getElem?_getD, List.getD_eq_getElem?_getD, e1, h2]
  exact h3
theorem vals_refs (n S : Nat) : Vals ((List.range n).map fun j => V.ref (S + 1 + j)) ((List.range n).map fun j => Value.ref (S + 1 + j)) := by
  generalize List.range n = l
  induction l with
  | nil => exact .nil
  | cons a l ih => exact .cons rfl ih
theorem pe_listZip {X : Cx} {e : Expr} {te : TE} {p p2 pos pos2 sp : Pos} (hg : Gl X "zip") (hm : X.mg "zip" = none) (hgl : Gl X "list") (hml : X.mg "list" = none) (hc : X.calm = true) (he : PE X e te)
    (hst : starEach [.Starred e sp] X.env = [(true, eval e X.env)]) (h1 : starEach [.Call (.Name "zip" p2) [.Starred e sp] [] pos2] X.env = (false, eval (.Call (.Name "zip" p2) [.Starred e sp] [] pos2) X.env) :: starEach [] X.env)
    (hpl : (backTo pos (starEach [] X.env)).any (·.1) = false) :
    PE X (.Call (.Name "list" p) [.Call (.Name "zip" p2) [.Starred e sp] [] pos2] [] pos) (tLZ4 X.K te) := by
  refine ⟨fun pins s σ H Q I h => ?_⟩
  refine Call_ (ld_blt I hgl hml (show bootBuiltins "list" = some (.type "list") by decide +kernel) (PyProof.Rows.callWith_type1 (Q := fun v s' => EP X pins σ Q v s') ?_ h1 hpl))
  rw [h1]
  show wpAny _ _ (spliced ((false, eval (.Call (.Name "zip" p2) [.Starred e sp] [] pos2) X.env) :: backTo pos (starEach [] X.env))) _ _ s
  refine Calls.spliced_cons ?_
  refine Call_ (ld_blt I hg hm PyProof.Rows.boot_zip (call_starT hst (thn (he.run pins s σ H _ I h) fun v s1 ⟨y, H1, I1, ry, rest⟩ => ?_)))
  obtain ⟨q, a, b, c, d, xa, xb, xc, xd, ey, hq, ⟨qa, qb, qc, qd⟩, go⟩ := rest
  subst ey
  obtain rfl : v = Value.ref q := ry
  refine star_any I1 hq fun us s2 I2 rv => ⟨trivial, ?_⟩
  cases rv with
  | cons r1 rv =>
    cases rv with
    | cons r2 rv =>
      cases rv with
      | cons r3 rv =>
        cases rv with
        | cons r4 rv =>
          cases rv
          cases r1
          cases r2
          cases r3
          cases r4
          obtain ⟨ia, ra, pa, za⟩ := I2.tuple qa
          obtain ⟨ib, rb, pb, zb⟩ := I2.tuple qb
          obtain ⟨ic, rc, pc, zc⟩ := I2.tuple qc
          obtain ⟨id', rd, pd, zd⟩ := I2.tuple qd
          have la : a < s2.heap.objs.size := by obtain ⟨o, ho, _⟩ := id pa; exact Heap.lt_size ho
          have lb : b < s2.heap.objs.size := by obtain ⟨o, ho, _⟩ := id pb; exact Heap.lt_size ho
          have lc : c < s2.heap.objs.size := by obtain ⟨o, ho, _⟩ := id pc; exact Heap.lt_size ho
          have ld : d < s2.heap.objs.size := by obtain ⟨o, ho, _⟩ := id pd; exact Heap.lt_size ho
          show wpAny _ _ (call (.type "zip") [.ref a, .ref b, .ref c, .ref d]) _ _ s2
          have Pa : s2.heap.IsTuple a ia.toArray := pa
          have Pb : s2.heap.IsTuple b ib.toArray := pb
          have Pc : s2.heap.IsTuple c ic.toArray := pc
          have Pd : s2.heap.IsTuple d id'.toArray := pd
          refine call_zip4 Pa Pb Pc Pd fun h' tn hsz hk => ?_
          refine Calls.spliced_nil ?_
          have l1 := ra.length
          have l2 := rb.length
          have l3 := rc.length
          have l4 := rd.length
          generalize hn : min (min xa.length xb.length) (min xc.length xd.length) = n at go
          have sq : ∀ e ∈ zi4 s2.heap.objs.size a b c d ia.toArray ib.toArray ic.toArray id'.toArray, e.Seq h' := fun e me => by
            unfold zi4 at me
            simp only [List.mem_cons, List.not_mem_nil, or_false] at me
            rcases me with rfl | rfl | rfl | rfl
            · exact .inl ⟨rfl, Pa.at fun o z => hk _ o z⟩
            · exact .inl ⟨rfl, Pb.at fun o z => hk _ o z⟩
            · exact .inl ⟨rfl, Pc.at fun o z => hk _ o z⟩
            · exact .inl ⟨rfl, Pd.at fun o z => hk _ o z⟩
          refine list_zip (s := { s2 with heap := h' }) (A := X.A) (n := n) (col := fun j => [ia.getD j .none, ib.getD j .none, ic.getD j .none, id'.getD j .none]) (I2.ok.hd hc) (zi4_apart la lb lc ld) (by simp [zi4]) (by show 4 ≤ sizeLine; decide) (by omega) tn sq (fun _ _ => rfl) (fun j hj k e ek => ?_) ?_ fun h2 kp hl ht => ?_
          · unfold zi4 at ek
            have gx : ∀ (l : List Value), j < l.length → ∃ x, l.toArray[j]? = some x ∧ l.getD j .none = x := fun l hl => ⟨l[j], by simp [hl], by rw [List.getD_eq_getElem?_getD, List.getElem?_eq_getElem hl]; rfl⟩
            match k, ek with
            | 0, ek => cases ek; obtain ⟨x, e1, e2⟩ := gx ia (by omega); exact ⟨x, e1, by rw [← e2]; rfl⟩
            | 1, ek => cases ek; obtain ⟨x, e1, e2⟩ := gx ib (by omega); exact ⟨x, e1, by rw [← e2]; rfl⟩
            | 2, ek => cases ek; obtain ⟨x, e1, e2⟩ := gx ic (by omega); exact ⟨x, e1, by rw [← e2]; rfl⟩
            | 3, ek => cases ek; obtain ⟨x, e1, e2⟩ := gx id' (by omega); exact ⟨x, e1, by rw [← e2]; rfl⟩
            | k + 4, ek => simp at ek
          · have : n = xa.length ∨ n = xb.length ∨ n = xc.length ∨ n = xd.length := by omega
            rcases this with q | q | q | q
            · exact ⟨⟨s2.heap.objs.size, a, ia.toArray, true⟩, by simp [zi4], by simp; omega⟩
            · exact ⟨⟨s2.heap.objs.size + 1, b, ib.toArray, true⟩, by simp [zi4], by simp; omega⟩
            · exact ⟨⟨s2.heap.objs.size + 2, c, ic.toArray, true⟩, by simp [zi4], by simp; omega⟩
            · exact ⟨⟨s2.heap.objs.size + 3, d, id'.toArray, true⟩, by simp [zi4], by simp; omega⟩
          · -- the new heap
            have hsz : h'.objs.size = s2.heap.objs.size + 7 := hsz
            have fresh : ∀ b : Nat, s2.heap.objs.size ≤ b → H1 b = none := fun b hb => I2.hok.fresh hb
            have keep : ∀ b o, s2.heap.get? b = some o → h2.get? b = some o := fun b o z => by
              have hlt : @LT.lt Nat _ b s2.heap.objs.size := Heap.lt_size z
              refine kp b o (ne_of (by omega)) (ne_of (by omega)) (fun e me => ?_) (hk b o z)
              unfold zi4 at me
              simp only [List.mem_cons, List.not_mem_nil, or_false] at me
              rcases me with rfl | rfl | rfl | rfl <;> exact ne_of (by dsimp only; omega)
            refine ⟨.ref h'.objs.size, Hz H1 h'.objs.size n (vcol xa xb xc xd), laidS (s := s2) (h' := h2) (t' := s2.toks) I2 keep (fun b o z => ?_) (fun b hb z => ?_) (fun b o z => ?_), rfl, go h'.objs.size fun j => fresh _ (by show s2.heap.objs.size ≤ h'.objs.size + j; omega)⟩
            · have hb : @LT.lt Nat _ b s2.heap.objs.size := by
                rcases Nat.lt_or_ge b s2.heap.objs.size with q | q
                · exact q
                · rw [fresh b q] at z; cases z
              unfold Hz
              rw [if_neg (show ¬ @Eq Nat b h'.objs.size by omega), if_neg (show ¬ (@LE.le Nat _ (h'.objs.size + 1) b ∧ @LT.lt Nat _ b (h'.objs.size + 1 + n)) by omega)]
              exact z
            · unfold Hz
              rw [if_neg (show ¬ @Eq Nat b h'.objs.size by omega), if_neg (show ¬ (@LE.le Nat _ (h'.objs.size + 1) b ∧ @LT.lt Nat _ b (h'.objs.size + 1 + n)) by omega)]
              exact z
            · have z2 := z
              unfold Hz at z2
              by_cases hb1 : (b : Nat) = h'.objs.size
              · rw [if_pos hb1] at z2
                cases z2
                subst hb1
                obtain ⟨cc, hcc⟩ := hl
                refine .inr ⟨by rw [List.length_map, List.length_range]; omega, (List.range n).map fun j => Value.ref (h'.objs.size + 1 + j), cc, ?_, hcc⟩
                exact vals_refs n h'.objs.size
              · rw [if_neg hb1] at z2
                by_cases hb2 : @LE.le Nat _ (h'.objs.size + 1) b ∧ @LT.lt Nat _ b (h'.objs.size + 1 + n)
                · rw [if_pos hb2] at z2
                  cases z2
                  have hb3 : @LE.le Nat _ (h'.objs.size + 1) b ∧ @LT.lt Nat _ b (h'.objs.size + 1 + n) := hb2
                  obtain ⟨j, hj⟩ : ∃ j : Nat, @Eq Nat b (h'.objs.size + 1 + j) := ⟨@HSub.hSub Nat Nat Nat _ b (h'.objs.size + 1), by omega⟩
                  have hjn : j < n := by omega
                  have e1 : @HSub.hSub Nat Nat Nat _ b (h'.objs.size + 1) = j := by omega
                  refine .inr ⟨by show 4 ≤ sizeLine; decide, _, ?_, ⟨_, by rw [hj]; exact ht j hjn, rfl, ⟨_, rfl⟩⟩⟩
                  rw [e1]
                  exact .cons (vals_getD ra (by omega)) (.cons (vals_getD rb (by omega)) (.cons (vals_getD rc (by omega)) (.cons (vals_getD rd (by omega)) .nil)))
                · rw [if_neg hb2] at z2
                  exact .inl z2
end DL

end
section
set_option autoImplicit false
namespace DL
open PySem PySem.Spec PyProof.Rows L2 StX

/-! ### list(zip(*rows)) of four tuples -/
def lzE (f : Ev) : Ev := fun ρ => (stE f ρ).bind fun d => (ofO (zs4 d)).bind fun ds => .ok (.new ds)
theorem RpAll.getD {K : PySem.W.Frag} {H : Hp} {vs : List V} {ds : List D} (r : RpAll K H vs ds) {i : Nat} {d : D} (e : ds[i]? = some d) : Rp K H (vs.getD i .non) d := by
  obtain ⟨v, h1, h2⟩ := r.get e
  rw [List.getD_eq_getElem?_getD, h1]
  exact h2
/-- the new list and its tuples: data -/
theorem lz_data {K : PySem.W.Frag} {S1 H1 : Hp} {as bs cs ds : List D} {xa xb xc xd : List V} (m : Same S1 H1) (ra : RpAll K S1 xa as) (rb : RpAll K S1 xb bs) (rc : RpAll K S1 xc cs) (rd : RpAll K S1 xd ds) {T n : Nat} (hn : min (min xa.length xb.length) (min xc.length xd.length) = n)
    (fr : ∀ j : Nat, H1 (T + j) = none) : ∃ S2, Ext S1 H1 S2 (Hz H1 T n (vcol xa xb xc xd)) ∧ S2 T = none ∧ Hz H1 T n (vcol xa xb xc xd) T = some (.lst ((List.range n).map fun j => V.ref (T + 1 + j))) ∧ RpAll K S2 ((List.range n).map fun j => V.ref (T + 1 + j)) (zip4 as bs cs ds) := by
  have frS : ∀ j : Nat, S1 (T + j) = none := fun j => m.free (fr j)
  have nb : ∀ (b : Nat) (u : HO), H1 b = some u → ¬ b = T ∧ ¬ (T + 1 ≤ b ∧ b < T + 1 + n) := fun b u e => by
    refine ⟨fun z => ?_, fun z => ?_⟩
    · have := fr 0
      rw [z] at e
      rw [show T + 0 = T from rfl] at this
      rw [this] at e; cases e
    · have := fr (b - T)
      rw [show T + (b - T) = b by omega] at this
      rw [this] at e; cases e
  refine ⟨fun b : Nat => if T + 1 ≤ b ∧ b < T + 1 + n then some (.tup (vcol xa xb xc xd (b - (T + 1)))) else S1 b, ⟨fun b u e => ?_, fun b u e => ?_, fun b u e => ?_, fun b e h => ?_⟩, ?_, ?_, ?_⟩
  · have := nb b u (m _ _ e)
    show (if _ then _ else _) = _
    rw [if_neg this.2]; exact e
  · have := nb b u e
    unfold Hz
    show (if _ then _ else _) = _
    rw [if_neg this.1, if_neg this.2]; exact e
  · have e : (if @LE.le Nat _ (T + 1) b ∧ @LT.lt Nat _ b (T + 1 + n) then some (HO.tup (vcol xa xb xc xd (@HSub.hSub Nat Nat Nat _ b (T + 1)))) else S1 b) = some u := e
    unfold Hz
    show (if @Eq Nat b T then _ else if @LE.le Nat _ (T + 1) b ∧ @LT.lt Nat _ b (T + 1 + n) then _ else _) = _
    by_cases hb : @LE.le Nat _ (T + 1) b ∧ @LT.lt Nat _ b (T + 1 + n)
    · rw [if_pos hb] at e
      rw [if_neg (by omega), if_pos hb]; exact e
    · rw [if_neg hb] at e
      have := nb b u (m _ _ e)
      rw [if_neg this.1, if_neg hb]; exact m _ _ e
  · show (if @LE.le Nat _ (T + 1) b ∧ @LT.lt Nat _ b (T + 1 + n) then _ else _) = _
    rw [if_neg fun hb => h ?_]
    · exact e
    · have := fr (@HSub.hSub Nat Nat Nat _ b T)
      rw [show @Eq Nat (T + (@HSub.hSub Nat Nat Nat _ b T)) b by omega] at this
      exact this
  · show (if @LE.le Nat _ (T + 1) T ∧ @LT.lt Nat _ T (T + 1 + n) then _ else _) = _
    rw [if_neg (by omega)]
    exact frS 0
  · unfold Hz
    show (if @Eq Nat T T then _ else _) = _
    rw [if_pos rfl]
  · have hl := zip4_len as bs cs ds
    rw [← ra.length, ← rb.length, ← rc.length, ← rd.length, hn] at hl
    have key : ∀ (k : Nat) (zs : List D), k + zs.length = n → (∀ j : Nat, zs[j]? = (zip4 as bs cs ds)[k + j]?) →
        RpAll K (fun b : Nat => if T + 1 ≤ b ∧ b < T + 1 + n then some (HO.tup (vcol xa xb xc xd (b - (T + 1)))) else S1 b) ((List.range' k zs.length).map fun j => V.ref (T + 1 + j)) zs := fun k zs => by
      induction zs generalizing k with
      | nil => exact fun _ _ => .nil
      | cons z zs ih =>
        intro h1 h2
        rw [List.length_cons] at h1
        have h0 := h2 0
        rw [List.getElem?_cons_zero] at h0
        obtain ⟨p, q, r, s, rfl, e1, e2, e3, e4⟩ := zip4_get h0.symm
        rw [List.length_cons, List.range'_succ, List.map_cons]
        refine .cons ?_ (ih (k + 1) (by omega) fun j => ?_)
        · have ss : Same S1 (fun b : Nat => if T + 1 ≤ b ∧ b < T + 1 + n then some (HO.tup (vcol xa xb xc xd (b - (T + 1)))) else S1 b) := fun b u e => by
            have := nb b u (m _ _ e)
            show (if _ then _ else _) = _
            rw [if_neg this.2]; exact e
          refine .tup (xs := vcol xa xb xc xd k) (SqT.of ?_) ?_
          · show (if @LE.le Nat _ (T + 1) (T + 1 + k) ∧ @LT.lt Nat _ (T + 1 + k) (T + 1 + n) then _ else _) = _
            rw [if_pos (by omega)]
            have : T + 1 + k - (T + 1) = k := by omega
            rw [this]
          · exact .cons ((ra.getD e1).mono ss) (.cons ((rb.getD e2).mono ss) (.cons ((rc.getD e3).mono ss) (.cons ((rd.getD e4).mono ss) .nil)))
        · have := h2 (j + 1)
          rw [List.getElem?_cons_succ] at this
          rw [this]
          congr 1
          omega
    have := key 0 (zip4 as bs cs ds) (by omega) fun j => by rw [Nat.zero_add]
    rw [hl] at this
    rw [List.range_eq_range']
    exact this
section
variable {X : Cx} {W : WX} {e : Expr} {f : Ev} {p p2 pos pos2 sp : Pos} {x : Str}
theorem d_listZip (hm : X.mg "zip" = none) (hml : X.mg "list" = none) (hc : X.calm = true) (he : PE X e (T X.K W f)) (hg : Gl X "zip" := by rfl) (hgl : Gl X "list" := by rfl) (hst : starEach [.Starred e sp] X.env = [(true, eval e X.env)] := by rfl)
    (h1 : starEach [.Call (.Name "zip" p2) [.Starred e sp] [] pos2] X.env = (false, eval (.Call (.Name "zip" p2) [.Starred e sp] [] pos2) X.env) :: starEach [] X.env := by rfl) (hpl : (backTo pos (starEach [] X.env)).any (·.1) = false := by rfl) :
    PE X (.Call (.Name "list" p) [.Call (.Name "zip" p2) [.Starred e sp] [] pos2] [] pos) (T X.K W (lzE f)) := PE.imp (pe_listZip hg hm hgl hml hc he hst h1 hpl) fun σ H Q q => by
  obtain ⟨S0, H0, S, ρ, Re, p⟩ := q
  refine t_stE ⟨S0, H0, S, ρ, Re, ?_⟩
  unfold lzE at p
  cases e : stE f ρ with
  | ok d =>
    rw [e] at p
    obtain ⟨d0, _, hd⟩ := stE_ok e
    refine fun v S1 H1 ex r => ?_
    have r := settle_rp hd r
    simp only [bind_ok] at p
    cases z : zs4 d with
    | none => rw [z] at p; exact p.elim
    | some ds =>
      rw [z] at p
      simp only [ofO_some, bind_ok] at p
      have fin : ∀ {q : Addr} {xs : List V} {as bs cs ds' : List D}, v = .ref q → zip4 as bs cs ds' = ds → (SqT X.K H1 q xs ∨ SqL X.K H1 q xs) → RpAll X.K S1 xs [.tup as, .tup bs, .tup cs, .tup ds'] →
          ∃ (q a b c d : Addr) (xa xb xc xd : List V), v = .ref q ∧ (SqT X.K H1 q [.ref a, .ref b, .ref c, .ref d] ∨ SqL X.K H1 q [.ref a, .ref b, .ref c, .ref d]) ∧
            (SqT X.K H1 a xa ∧ SqT X.K H1 b xb ∧ SqT X.K H1 c xc ∧ SqT X.K H1 d xd) ∧ ∀ T : Nat, (∀ j : Nat, H1 (T + j) = none) → Q (.ref T) (Hz H1 T (min (min xa.length xb.length) (min xc.length xd.length)) (vcol xa xb xc xd)) := fun {q xs as bs cs ds'} ev' hz hq ra => by
        cases ra with
        | cons r1 ra =>
          cases ra with
          | cons r2 ra =>
            cases ra with
            | cons r3 ra =>
              cases ra with
              | cons r4 ra =>
                cases ra
                cases r1 with
                | tup g1 q1 =>
                  cases r2 with
                  | tup g2 q2 =>
                    cases r3 with
                    | tup g3 q3 =>
                      cases r4 with
                      | tup g4 q4 =>
                        refine ⟨q, _, _, _, _, _, _, _, _, ev', hq, ⟨Same.seqT ex.sh g1, Same.seqT ex.sh g2, Same.seqT ex.sh g3, Same.seqT ex.sh g4⟩, fun T fr => ?_⟩
                        obtain ⟨S2, k1, k2, k3, k4⟩ := lz_data ex.sh q1 q2 q3 q4 rfl fr
                        rw [hz] at k4
                        exact p _ S2 _ (ex.trans k1) ⟨T, _, rfl, ex.hh.free (fr 0), k2, k3, k4⟩
      unfold zs4 at z
      split at z
      · cases z
        cases r with
        | tup g q => exact fin rfl rfl (.inl (Same.seqT ex.sh g)) q
      · cases z
        cases r with
        | lst g q => exact fin rfl rfl (.inr (SqL.of (ex.sh _ _ g))) q
      · cases z
  | err x => rw [e] at p; exact p
  | st => rw [e] at p; exact p
end

/-! ### constants of the module -/
def KT (K : PySem.W.Frag) (u : Value) (d : D) : Prop := ∃ v, RelV v u ∧ ∀ S, Rp K S v d
def KTs (K : PySem.W.Frag) (us : List Value) (ds : List D) : Prop := ∃ vs, Vals vs us ∧ ∀ S, RpAll K S vs ds
theorem KT.int {K : PySem.W.Frag} {i : Int} {t : Tok} : KT K (.int i t) (.int i) := ⟨.int i, ⟨t, rfl⟩, fun S => .int i⟩
theorem KTs.nil {K : PySem.W.Frag} : KTs K [] [] := ⟨[], .nil, fun S => .nil⟩
theorem KTs.cons {K : PySem.W.Frag} {u : Value} {us : List Value} {d : D} {ds : List D} (h : KT K u d) (h2 : KTs K us ds) : KTs K (u :: us) (d :: ds) := by
  obtain ⟨v, h3, h4⟩ := h
  obtain ⟨vs, h5, h6⟩ := h2
  exact ⟨v :: vs, .cons h3 h5, fun S => .cons (h4 S) (h6 S)⟩
theorem KT.tup {K : PySem.W.Frag} {a : Addr} {od : Option Addr} {us : List Value} {n : Nat} {osl : Array (Option Value)} {ds : List D} (l : K.lookup a = some ⟨.type "tuple", od, .seq us.toArray n, osl⟩) (h : KTs K us ds) (hz : us.length ≤ 1000 := by simp) : KT K (.ref a) (.tup ds) := by
  obtain ⟨vs, h5, h6⟩ := h
  refine ⟨.ref a, rfl, fun S => .tup (.inr ⟨_, us.toArray, n, l, rfl, rfl, ?_, by simpa using h5⟩) (h6 S)⟩
  rw [List.size_toArray]
  exact Nat.le_trans hz (by rw [sizeLine_eq]; decide)
/-- a name of the module that stands for data -/
structure Gc (K : PySem.W.Frag) (mg : Str → Option Value) (x : Str) (d : D) : Prop where
  ex : ∃ u, mg x = some u ∧ KT K u d
section
variable {X : Cx} {W : WX} {pos : Pos} {x : Str} {d : D}
theorem d_glob (g : Gc X.K X.mg x d) (hg : Gl X x := by rfl) (hd : (x == ("__debug__" : Str)) = false := by decide) : PE X (.Name x pos) (T X.K W (cE d)) := by
  obtain ⟨u, hm, v, r, h⟩ := g.ex
  refine PE.imp (pe_glob hg hm r hd) fun σ H Q q => ?_
  obtain ⟨S0, H0, S, ρ, R, p⟩ := q
  exact p v S H (Ext.refl R.sh) (rp_new (h S))
end
end DL

end
namespace DL
open PySem L2
noncomputable def le_is_quadruple_0 : Ev := (e2 mulD (varE 2) (varE 2))
noncomputable def b_is_quadruple : Es := (seqS (ifS (tst0 (e2 neD (e1 lenD (varE 0)) (cE (.int 4))))
  (retS (cE (.bl false)))
  skipS)
  (seqS (asgS 1 (e1 sumA (varE 0)))
  (retS (andE (e2 gtD (varE 1) (cE (.int 0))) (e2 eqD (e2 mulD (varE 1) (varE 1)) (e2 mulD (cE (.int 2)) (e1 sumA (lcE (seqI (varE 0)) [2] (gN 2) yesB le_is_quadruple_0))))))))
noncomputable def F_is_quadruple : List D → Res D := runF 2 (b_is_quadruple)
noncomputable def le_made_row_0 : Ev := (e2 subD (e2 mulD (cE (.int 2)) (e1 sumA (varE 2))) (e2 mulD (cE (.int 3)) (e2 ixD (varE 2) (e2 subD (varE 1) (cE (.int 1))))))
noncomputable def b_made_row : Es := (retF (e1 tupleD (lcE (zsI (varE 0)) [2] (gN 2) yesB le_made_row_0)))
noncomputable def F_made_row : List D → Res D := runF 1 (b_made_row)
noncomputable def b_exchanged_rows : Es := (retF (e2 addD (e2 addD (sliceE (varE 0) noO (someO (e2 subD (varE 1) (cE (.int 1))))) (tupE (consA (callE 2 F_made_row (consA (varE 0) (consA (varE 1) nilA))) nilA))) (sliceE (varE 0) (someO (varE 1)) noO)))
noncomputable def F_exchanged_rows : List D → Res D := runF 0 (b_exchanged_rows)
noncomputable def b_is_place : Es := (retS (andE (isiE (kitT "int") (varE 0)) (andE (notE (isiE (kitT "bool") (varE 0))) (chE leD leD (cE (.int 1)) (varE 0) (cE (.int 4))))))
noncomputable def F_is_place : List D → Res D := runF 0 (b_is_place)
noncomputable def lb_check_word_0 (C_InvalidWord : Addr) : Es := (wpS [1] (ifS (notB (tstE (callE 1 F_is_place (consA (varE 1) nilA))))
  (raiseS ⟨.ref C_InvalidWord, none⟩)
  skipS))
noncomputable def b_check_word (C_InvalidWord : Addr) : Es := (seqS (ifS (notB (tstE (isiE (kitT2 "tuple" "list") (varE 0))))
  (raiseS ⟨.ref C_InvalidWord, none⟩)
  skipS)
  (wpS [1] (forS (seqI (varE 0)) (gN 1)
  (lb_check_word_0 C_InvalidWord))))
noncomputable def F_check_word (C_InvalidWord : Addr) : List D → Res D := runF 1 (b_check_word C_InvalidWord)
noncomputable def lb_rows_at_0 : Es := (wpS [2] (asgS 0 (callE 2 F_exchanged_rows (consA (varE 0) (consA (varE 2) nilA)))))
noncomputable def b_rows_at (C_InvalidWord : Addr) : Es := (seqS (dropS (callE 1 (F_check_word C_InvalidWord) (consA (varE 1) nilA)))
  (seqS (wpS [2] (forS (seqI (varE 1)) (gN 2)
  lb_rows_at_0))
  (retS (varE 0))))
noncomputable def F_rows_at (C_InvalidWord : Addr) : List D → Res D := runF 1 (b_rows_at C_InvalidWord)
noncomputable def b_check_quadruple (C_InvalidFour : Addr) : Es := (ifS (notB (tstE (callE 1 F_is_quadruple (consA (varE 0) nilA))))
  (raiseS ⟨.ref C_InvalidFour, none⟩)
  skipS)
noncomputable def F_check_quadruple (C_InvalidFour : Addr) : List D → Res D := runF 0 (b_check_quadruple C_InvalidFour)
noncomputable def le_as_rows_0 : Ev := (tupE (consA (varE 1) nilA))
noncomputable def b_as_rows : Es := (retF (e1 tupleD (lcE (seqI (varE 0)) [1] (gN 1) yesB le_as_rows_0)))
noncomputable def F_as_rows : List D → Res D := runF 1 (b_as_rows)
noncomputable def le_as_curvatures_0 : Ev := (e2 ixD (varE 1) (cE (.int 0)))
noncomputable def b_as_curvatures : Es := (retF (e1 tupleD (lcE (seqI (varE 0)) [1] (gN 1) yesB le_as_curvatures_0)))
noncomputable def F_as_curvatures : List D → Res D := runF 1 (b_as_curvatures)
noncomputable def b_curvatures_at (C_InvalidFour : Addr) (C_InvalidWord : Addr) : Es := (seqS (dropS (callE 1 (F_check_quadruple C_InvalidFour) (consA (varE 0) nilA)))
  (retF (callE 1 F_as_curvatures (consA (callE 2 (F_rows_at C_InvalidWord) (consA (callE 1 F_as_rows (consA (varE 0) nilA)) (consA (varE 1) nilA))) nilA))))
noncomputable def F_curvatures_at (C_InvalidFour : Addr) (C_InvalidWord : Addr) : List D → Res D := runF 0 (b_curvatures_at C_InvalidFour C_InvalidWord)
noncomputable def lb_rows_along_0 : Es := (wpS [3] (seqS (asgS 0 (callE 2 F_exchanged_rows (consA (varE 0) (consA (varE 3) nilA))))
  (appS 2 (varE 0))))
noncomputable def b_rows_along (C_InvalidWord : Addr) : Es := (seqS (dropS (callE 1 (F_check_word C_InvalidWord) (consA (varE 1) nilA)))
  (seqS (ownS 2 (lstE (consA (varE 0) nilA)))
  (seqS (wpS [0, 3] (forS (seqI (varE 1)) (gN 3)
  lb_rows_along_0))
  (retOwnN 2))))
noncomputable def F_rows_along (C_InvalidWord : Addr) : List D → Res D := runF 2 (b_rows_along C_InvalidWord)
noncomputable def le_curvatures_along_0 : Ev := (callE 1 F_as_curvatures (consA (varE 2) nilA))
noncomputable def b_curvatures_along (C_InvalidFour : Addr) (C_InvalidWord : Addr) : Es := (seqS (dropS (callE 1 (F_check_quadruple C_InvalidFour) (consA (varE 0) nilA)))
  (retF (lcE (seqI (callE 2 (F_rows_along C_InvalidWord) (consA (callE 1 F_as_rows (consA (varE 0) nilA)) (consA (varE 1) nilA)))) [2] (gN 2) yesB le_curvatures_along_0)))
noncomputable def F_curvatures_along (C_InvalidFour : Addr) (C_InvalidWord : Addr) : List D → Res D := runF 1 (b_curvatures_along C_InvalidFour C_InvalidWord)
noncomputable def lb__law_row_0 : Es := (wpS [5] (seqS (asgS 4 (e2 modD (e1 intD (e2 addD (e2 mulD (varE 4) (cE (.int 16807))) (e2 mulD (cE (.int 271)) (e2 addD (varE 5) (cE (.int 3)))))) (cE (.int 2147483629))))
  (ifS (tst0 (e2 geD (e1 absD (varE 0)) (e2 powD (cE (.int 10)) (cE (.int 18)))))
  (seqS (appS 2 (e2 modD (e1 intD (varE 3)) (cE (.int 1009))))
  (asgS 3 (e2 fdivD (varE 3) (cE (.int 1009)))))
  (appS 2 (e2 modD (e1 intD (e2 fdivD (varE 4) (cE (.int 7)))) (cE (.int 1009)))))))
noncomputable def b__law_row : Es := (seqS (ownS 2 (lstE nilA))
  (seqS (asgS 3 (e1 absD (varE 0)))
  (seqS (asgS 4 (e2 modD (e1 intD (e2 addD (e2 mulD (varE 3) (cE (.int 48271))) (cE (.int 69621)))) (cE (.int 2147483647))))
  (seqS (wpS [3, 4, 5] (forS (rng1I (varE 1)) (gN 5)
  lb__law_row_0))
  (retOwnN 2)))))
noncomputable def F__law_row : List D → Res D := runF 4 (b__law_row)
noncomputable def lb__law_numbers_0 : Es := (wpS [6] (appS 4 (varE 6)))
noncomputable def lb__law_numbers_1 : Es := (wpS [5, 6] (wpS [6] (forS (seqI (callE 2 F__law_row (consA (varE 5) (consA (varE 3) nilA)))) (gN 6)
  lb__law_numbers_0)))
noncomputable def lc__law_numbers_0 : Eb := (tst0 (e2 ltD (e1 lenD (varE 4)) (varE 1)))
noncomputable def lb__law_numbers_2 : Es := (appS 4 (cE (.int 0)))
noncomputable def b__law_numbers : Es := (seqS (asgS 2 (sliceE (varE 0) noO (someO (cE (.int 63)))))
  (seqS (asgS 3 (e2 addD (cE (.int 1)) (e2 fdivD (varE 1) (e2 maxD (cE (.int 1)) (e1 lenD (varE 2))))))
  (seqS (ownS 4 (lstE nilA))
  (seqS (wpS [5, 6] (forS (seqI (varE 2)) (gN 5)
  lb__law_numbers_1))
  (seqS (whX lc__law_numbers_0 lb__law_numbers_2)
  (frzS 4 (retF (sliceE (varE 4) noO (someO (varE 1))))))))))
noncomputable def F__law_numbers : List D → Res D := runF 5 (b__law_numbers)
noncomputable def le__law_word_0 : Ev := (e2 addD (cE (.int 1)) (e2 modD (e1 intD (e2 ixD (varE 0) (e2 addD (varE 1) (varE 3)))) (cE (.int 4))))
noncomputable def b__law_word : Es := (retF (e1 tupleD (lcE (rng1I (varE 2)) [3] (gN 3) yesB le__law_word_0)))
noncomputable def F__law_word : List D → Res D := runF 1 (b__law_word)
noncomputable def b__law_exchange : Es := (seqS (asgS 2 (e1 sumA (varE 0)))
  (seqS (ownS 3 (e1 listD (varE 0)))
  (seqS (setS 3 (e2 subD (varE 1) (cE (.int 1))) (e2 subD (e2 mulD (cE (.int 2)) (varE 2)) (e2 mulD (cE (.int 3)) (e2 ixD (varE 0) (e2 subD (varE 1) (cE (.int 1)))))))
  (frzS 3 (retF (e1 tupleD (varE 3)))))))
noncomputable def F__law_exchange : List D → Res D := runF 2 (b__law_exchange)
noncomputable def le__law_quadruple_0 : Ev := (e2 mulD (varE 5) (varE 3))
noncomputable def lb__law_quadruple_0 : Es := (wpS [8] (asgS 7 (callE 2 F__law_exchange (consA (varE 7) (consA (e2 addD (cE (.int 1)) (e2 modD (e1 intD (e2 ixD (varE 0) (e2 addD (e2 addD (varE 1) (cE (.int 4))) (varE 8)))) (cE (.int 4)))) nilA)))))
noncomputable def b__law_quadruple : Es := (seqS (asgS 2 (lstE (consA (tupE (consA (e1 negD (cE (.int 1))) (consA (cE (.int 2)) (consA (cE (.int 2)) (consA (cE (.int 3)) nilA))))) (consA (tupE (consA (e1 negD (cE (.int 2))) (consA (cE (.int 3)) (consA (cE (.int 6)) (consA (cE (.int 7)) nilA))))) (consA (tupE (consA (e1 negD (cE (.int 3))) (consA (cE (.int 4)) (consA (cE (.int 12)) (consA (cE (.int 13)) nilA))))) (consA (tupE (consA (e1 negD (cE (.int 3))) (consA (cE (.int 5)) (consA (cE (.int 8)) (consA (cE (.int 8)) nilA))))) (consA (tupE (consA (e1 negD (cE (.int 4))) (consA (cE (.int 8)) (consA (cE (.int 9)) (consA (cE (.int 9)) nilA))))) (consA (tupE (consA (e1 negD (cE (.int 6))) (consA (cE (.int 11)) (consA (cE (.int 14)) (consA (cE (.int 15)) nilA))))) (consA (tupE (consA (cE (.int 0)) (consA (cE (.int 0)) (consA (cE (.int 1)) (consA (cE (.int 1)) nilA))))) nilA)))))))))
  (seqS (asgS 3 (e2 modD (e1 intD (e2 ixD (varE 0) (varE 1))) (cE (.int 9))))
  (seqS (asgS 4 (e2 ixD (varE 2) (e2 minD (varE 3) (cE (.int 6)))))
  (seqS (wpS [8] (ifS (tst0 (e2 gtD (varE 3) (cE (.int 6))))
  (seqS (asgS 8 (e2 addD (cE (.int 2)) (e2 modD (e1 intD (e2 fdivD (e2 ixD (varE 0) (varE 1)) (cE (.int 9)))) (cE (.int 9)))))
  (asgS 4 (tupE (consA (e1 negD (varE 8)) (consA (e2 addD (varE 8) (cE (.int 1))) (consA (e2 mulD (varE 8) (e2 addD (varE 8) (cE (.int 1)))) (consA (e2 addD (e2 mulD (varE 8) (e2 addD (varE 8) (cE (.int 1)))) (cE (.int 1))) nilA)))))))
  skipS))
  (seqS (asgS 5 (e2 ixD (lstE (consA (cE (.int 1)) (consA (cE (.int 1)) (consA (cE (.int 1)) (consA (cE (.int 2)) (consA (cE (.int 3)) nilA)))))) (e2 modD (e1 intD (e2 ixD (varE 0) (e2 addD (varE 1) (cE (.int 1))))) (cE (.int 5)))))
  (seqS (asgS 6 (e2 modD (e1 intD (e2 ixD (varE 0) (e2 addD (varE 1) (cE (.int 2))))) (cE (.int 4))))
  (seqS (asgS 7 (e1 tupleD (lcE (seqI (e2 addD (sliceE (varE 4) (someO (varE 6)) noO) (sliceE (varE 4) noO (someO (varE 6))))) [3] (gN 3) yesB le__law_quadruple_0)))
  (seqS (ifS (tst0 (e2 eqD (e2 modD (e1 intD (e2 fdivD (e2 ixD (varE 0) (e2 addD (varE 1) (cE (.int 2)))) (cE (.int 4)))) (cE (.int 2))) (cE (.int 1))))
  (asgS 7 (e1 revT (varE 7)))
  skipS)
  (seqS (wpS [8] (forS (rng1I (e2 modD (e1 intD (e2 ixD (varE 0) (e2 addD (varE 1) (cE (.int 3))))) (cE (.int 5)))) (gN 8)
  lb__law_quadruple_0))
  (retS (varE 7)))))))))))
noncomputable def F__law_quadruple : List D → Res D := runF 7 (b__law_quadruple)
noncomputable def le__law_fits_0 : Ev := (e2 mulD (varE 3) (varE 3))
noncomputable def b__law_fits : Es := (seqS (asgS 1 (e1 sumA (varE 0)))
  (seqS (asgS 2 (e1 sumA (lcE (seqI (varE 0)) [3] (gN 3) yesB le__law_fits_0)))
  (retS (andE (e2 eqD (e1 lenD (varE 0)) (cE (.int 4))) (andE (e2 gtD (varE 1) (cE (.int 0))) (e2 eqD (e2 mulD (varE 1) (varE 1)) (e2 mulD (cE (.int 2)) (varE 2))))))))
noncomputable def F__law_fits : List D → Res D := runF 3 (b__law_fits)
noncomputable def b_matrix_of (C_InvalidWord : Addr) : Es := (retF (callE 2 (F_rows_at C_InvalidWord) (consA (cE (.tup [.tup [.int 1, .int 0, .int 0, .int 0], .tup [.int 0, .int 1, .int 0, .int 0], .tup [.int 0, .int 0, .int 1, .int 0], .tup [.int 0, .int 0, .int 0, .int 1]])) (consA (varE 0) nilA))))
noncomputable def F_matrix_of (C_InvalidWord : Addr) : List D → Res D := runF 0 (b_matrix_of C_InvalidWord)
noncomputable def le_applied_0 : Ev := (e2 mulD (varE 3) (varE 4))
noncomputable def le_applied_1 : Ev := (e1 sumA (lcE (zip2I (consA (varE 2) (consA (varE 1) nilA))) [3, 4] (gU [3, 4]) yesB le_applied_0))
noncomputable def b_applied : Es := (retF (e1 tupleD (lcE (seqI (varE 0)) [2] (gN 2) yesB le_applied_1)))
noncomputable def F_applied : List D → Res D := runF 3 (b_applied)
noncomputable def le_product_0 : Ev := (callE 2 F_applied (consA (varE 2) (consA (varE 3) nilA)))
noncomputable def b_product : Es := (seqS (asgS 2 (lzE (varE 1)))
  (retF (e1 tupleD (lcE (seqI (varE 0)) [3] (gN 3) yesB le_product_0))))
noncomputable def F_product : List D → Res D := runF 2 (b_product)
noncomputable def le__law_matrix_0 : Ev := (e1 intD (e2 eqD (varE 5) (varE 2)))
noncomputable def lb__law_matrix_0 : Es := (wpS [4] (asgS 3 (callE 2 F__law_exchange (consA (varE 3) (consA (varE 4) nilA)))))
noncomputable def lb__law_matrix_1 : Es := (wpS [2, 3, 4] (seqS (asgS 3 (e1 tupleD (lcE (rng1I (cE (.int 4))) [5] (gN 5) yesB le__law_matrix_0)))
  (seqS (wpS [4] (forS (seqI (varE 0)) (gN 4)
  lb__law_matrix_0))
  (appS 1 (varE 3)))))
noncomputable def le__law_matrix_1 : Ev := (e2 ixD (e2 ixD (varE 1) (varE 2)) (varE 5))
noncomputable def le__law_matrix_2 : Ev := (e1 tupleD (lcE (rng1I (cE (.int 4))) [2] (gN 2) yesB le__law_matrix_1))
noncomputable def b__law_matrix : Es := (seqS (ownS 1 (lstE nilA))
  (seqS (wpS [2, 3, 4] (forS (rng1I (cE (.int 4))) (gN 2)
  lb__law_matrix_1))
  (frzS 1 (retF (e1 tupleD (lcE (rng1I (cE (.int 4))) [5] (gN 5) yesB le__law_matrix_2))))))
noncomputable def F__law_matrix : List D → Res D := runF 5 (b__law_matrix)
noncomputable def b_exchanged_numbers : Es := (seqS (asgS 2 (e2 subD (e2 mulD (cE (.int 2)) (e1 sumA (varE 0))) (e2 mulD (cE (.int 3)) (e2 ixD (varE 0) (e2 subD (varE 1) (cE (.int 1)))))))
  (retF (e2 addD (e2 addD (sliceE (varE 0) noO (someO (e2 subD (varE 1) (cE (.int 1))))) (tupE (consA (varE 2) nilA))) (sliceE (varE 0) (someO (varE 1)) noO))))
noncomputable def F_exchanged_numbers : List D → Res D := runF 1 (b_exchanged_numbers)
noncomputable def lb_numbers_at_0 : Es := (wpS [2] (asgS 0 (callE 2 F_exchanged_numbers (consA (varE 0) (consA (varE 2) nilA)))))
noncomputable def b_numbers_at (C_InvalidWord : Addr) : Es := (seqS (dropS (callE 1 (F_check_word C_InvalidWord) (consA (varE 1) nilA)))
  (seqS (wpS [2] (forS (seqI (varE 1)) (gN 2)
  lb_numbers_at_0))
  (retS (varE 0))))
noncomputable def F_numbers_at (C_InvalidWord : Addr) : List D → Res D := runF 1 (b_numbers_at C_InvalidWord)
noncomputable def b_curvatures_at_2 (C_InvalidFour : Addr) (C_InvalidWord : Addr) : Es := (seqS (dropS (callE 1 (F_check_quadruple C_InvalidFour) (consA (varE 0) nilA)))
  (retF (callE 2 (F_numbers_at C_InvalidWord) (consA (e1 tupleD (varE 0)) (consA (varE 1) nilA)))))
noncomputable def F_curvatures_at_2 (C_InvalidFour : Addr) (C_InvalidWord : Addr) : List D → Res D := runF 0 (b_curvatures_at_2 C_InvalidFour C_InvalidWord)
noncomputable def lb_curvatures_along_2_0 : Es := (wpS [3] (appS 2 (callE 2 F_exchanged_numbers (consA (e2 ixD (varE 2) (e1 negD (cE (.int 1)))) (consA (varE 3) nilA)))))
noncomputable def b_curvatures_along_2 (C_InvalidFour : Addr) (C_InvalidWord : Addr) : Es := (seqS (dropS (callE 1 (F_check_quadruple C_InvalidFour) (consA (varE 0) nilA)))
  (seqS (dropS (callE 1 (F_check_word C_InvalidWord) (consA (varE 1) nilA)))
  (seqS (ownS 2 (lstE (consA (e1 tupleD (varE 0)) nilA)))
  (seqS (wpS [3] (forS (seqI (varE 1)) (gN 3)
  lb_curvatures_along_2_0))
  (retOwnN 2)))))
noncomputable def F_curvatures_along_2 (C_InvalidFour : Addr) (C_InvalidWord : Addr) : List D → Res D := runF 2 (b_curvatures_along_2 C_InvalidFour C_InvalidWord)
end DL
namespace DL
open PySem L2
local macro_rules
  | `(tactic| simp_arith [$xs,*]) => `(tactic| simp (config := {failIfUnchanged := false}) only [o0, o1, o2, o3, o4, o5, o6, o7, o8, o9, o10, o11, o12, o13, o14, o15, o16, o17, o18, o19, o20, o21, o22, o23, o24, o25, o26, o27, o28, o29, o30, o31, o32, o33, o34, o35, o36, o37, o38, o39, o40, o41, o42, o43, o44, o45, o46, o47, o48, at_seq, at_skip, at_asg, own_new, at_own, at_drop, at_ret, at_retN, rO_own, at_retOwn, at_if, at_brk, at_cnt, at_raise, ooS_some, unp1_tup, at_unp, setAll_nil, setAll_cons, par1_ok, par1_err, at_par2, frz1_own, frz1_v, at_frz, app0_own, at_app, app1_ok, pop0_own, at_pop, clr0_own, at_clr, aug0_int, aug1_int, at_aug, at_for, for_nil, gnx_some, for_cons, at_gN, at_gU,  at_e1, at_e2, at_st, vO_v, vO_own, at_var, at_c, settle_non, settle_bl, settle_int, settle_str, settle_lst, settle_tup, settle_frz, settle_new, add_int, add_str, add_tup, add_lst_lst, add_lst_new, add_lst_bor, add_new_lst, add_new_new, add_new_bor, add_bor_lst, add_bor_new, add_bor_bor, sub_int, mul_r, mul_l, fdiv_p, mod_p, pow_p, neg_int, lt_int, le_int, gt_int, ge_int, is_bl, ni_bl, is_n_non, ni_n_non, is_n_bl, ni_n_bl, is_n_int, ni_n_int, is_n_str, ni_n_str, is_n_lst, ni_n_lst, is_n_tup, ni_n_tup, is_n_new, ni_n_new, is_n_bor, ni_n_bor, items_lst, len_lst, list_lst, tuple_lst, ix_lst, tru_lst, rev_lst, slice_lst, ty_lst, sum_lst, all_lst, any_lst, items_new, len_new, list_new, tuple_new, ix_new, tru_new, rev_new, slice_new, ty_new, sum_new, all_new, any_new, items_bor, len_bor, list_bor, tuple_bor, ix_bor, tru_bor, rev_bor, slice_bor, ty_bor, sum_bor, all_bor, any_bor, len_tup, len_frz, len_str, list_tup, list_frz, tuple_tup, ix_tup, tru_tup, tru_bl, tru_int, tru_non, slice_tup, slice_frz, revT_tup, int_int, int_bl, abs_int, max_int, min_int, blO_bl, ty_non, ty_bl, ty_int, ty_str, ty_tup, at_tst, at_tst0, nB_ok, nB_err, at_notB, at_andB, at_orB, at_andE, at_orE, nE_ok, nE_err, at_notE, at_ifE, at_nilA, at_consA, tupL_ok, lstL_ok, at_tup, at_lst, callL_0, callL_1, callL_2, callL_3, callL_4, callL_5, at_call, at_chK, at_ch2, at_ch0, chR_ok, at_ch, at_isi, obl_some, isi1_at, kit2_t, kit2_f, at_kitT2, slc_ok, at_slice, at_noO, soO_int, at_someO, sq1_tup, sq1_lst, bl1_ok, bl1_err, bl1_st, at_seqI, rg1_int, at_rng1, rg2_int, rg0_ok, at_rng2, lc0_ok, at_lc, wipe_nil, wipe_cons, at_yes, kitT_int_int, kitT_int_bool, kitT_int_str, kitT_int_list, kitT_int_tuple, kitT_int_none, kitT_bool_int, kitT_bool_bool, kitT_bool_str, kitT_bool_list, kitT_bool_tuple, kitT_bool_none, kitT_tuple_int, kitT_tuple_bool, kitT_tuple_str, kitT_tuple_list, kitT_tuple_tuple, kitT_tuple_none, kitT_list_int, kitT_list_bool, kitT_list_str, kitT_list_list, kitT_list_tuple, kitT_list_none, kitT_str_int, kitT_str_bool, kitT_str_str, kitT_str_list, kitT_str_tuple, kitT_str_none, eqD_int, neD_int, eqD_bl, neD_bl, List.map_cons, List.map_nil, List.replicate, List.cons_append, List.nil_append, List.set_cons_zero, List.set_cons_succ, List.getElem?_cons_zero, List.getElem?_cons_succ, List.length_cons, List.length_nil, List.length_map, List.length_range, bind_ok, bind_err, bind_st, ofO_some, ofO_none, then_ok, then_err, then_st, Option.bind_some, Option.bind_none, Option.map_some, Option.map_none, Nat.zero_add, Nat.reduceAdd, Nat.reduceLeDiff, Nat.reduceEqDiff, ite_true, ite_false, if_true, if_false, reduceIte, Bool.not_true, Bool.not_false, Bool.false_eq_true, decide_eq_true_eq, Bool.not_eq_true, Int.reduceLT, Int.reduceLE, Int.reduceNeg, Int.reduceToNat, Int.reducePow, Int.reduceEq, Int.reduceAdd, Int.reduceSub, Int.reduceMul, Nat.reduceLT, decide_true, decide_false, $xs,*])
local macro_rules
  | `(tactic| simp_arith) => `(tactic| simp (config := {failIfUnchanged := false}) only [o0, o1, o2, o3, o4, o5, o6, o7, o8, o9, o10, o11, o12, o13, o14, o15, o16, o17, o18, o19, o20, o21, o22, o23, o24, o25, o26, o27, o28, o29, o30, o31, o32, o33, o34, o35, o36, o37, o38, o39, o40, o41, o42, o43, o44, o45, o46, o47, o48, at_seq, at_skip, at_asg, own_new, at_own, at_drop, at_ret, at_retN, rO_own, at_retOwn, at_if, at_brk, at_cnt, at_raise, ooS_some, unp1_tup, at_unp, setAll_nil, setAll_cons, par1_ok, par1_err, at_par2, frz1_own, frz1_v, at_frz, app0_own, at_app, app1_ok, pop0_own, at_pop, clr0_own, at_clr, aug0_int, aug1_int, at_aug, at_for, for_nil, gnx_some, for_cons, at_gN, at_gU,  at_e1, at_e2, at_st, vO_v, vO_own, at_var, at_c, settle_non, settle_bl, settle_int, settle_str, settle_lst, settle_tup, settle_frz, settle_new, add_int, add_str, add_tup, add_lst_lst, add_lst_new, add_lst_bor, add_new_lst, add_new_new, add_new_bor, add_bor_lst, add_bor_new, add_bor_bor, sub_int, mul_r, mul_l, fdiv_p, mod_p, pow_p, neg_int, lt_int, le_int, gt_int, ge_int, is_bl, ni_bl, is_n_non, ni_n_non, is_n_bl, ni_n_bl, is_n_int, ni_n_int, is_n_str, ni_n_str, is_n_lst, ni_n_lst, is_n_tup, ni_n_tup, is_n_new, ni_n_new, is_n_bor, ni_n_bor, items_lst, len_lst, list_lst, tuple_lst, ix_lst, tru_lst, rev_lst, slice_lst, ty_lst, sum_lst, all_lst, any_lst, items_new, len_new, list_new, tuple_new, ix_new, tru_new, rev_new, slice_new, ty_new, sum_new, all_new, any_new, items_bor, len_bor, list_bor, tuple_bor, ix_bor, tru_bor, rev_bor, slice_bor, ty_bor, sum_bor, all_bor, any_bor, len_tup, len_frz, len_str, list_tup, list_frz, tuple_tup, ix_tup, tru_tup, tru_bl, tru_int, tru_non, slice_tup, slice_frz, revT_tup, int_int, int_bl, abs_int, max_int, min_int, blO_bl, ty_non, ty_bl, ty_int, ty_str, ty_tup, at_tst, at_tst0, nB_ok, nB_err, at_notB, at_andB, at_orB, at_andE, at_orE, nE_ok, nE_err, at_notE, at_ifE, at_nilA, at_consA, tupL_ok, lstL_ok, at_tup, at_lst, callL_0, callL_1, callL_2, callL_3, callL_4, callL_5, at_call, at_chK, at_ch2, at_ch0, chR_ok, at_ch, at_isi, obl_some, isi1_at, kit2_t, kit2_f, at_kitT2, slc_ok, at_slice, at_noO, soO_int, at_someO, sq1_tup, sq1_lst, bl1_ok, bl1_err, bl1_st, at_seqI, rg1_int, at_rng1, rg2_int, rg0_ok, at_rng2, lc0_ok, at_lc, wipe_nil, wipe_cons, at_yes, kitT_int_int, kitT_int_bool, kitT_int_str, kitT_int_list, kitT_int_tuple, kitT_int_none, kitT_bool_int, kitT_bool_bool, kitT_bool_str, kitT_bool_list, kitT_bool_tuple, kitT_bool_none, kitT_tuple_int, kitT_tuple_bool, kitT_tuple_str, kitT_tuple_list, kitT_tuple_tuple, kitT_tuple_none, kitT_list_int, kitT_list_bool, kitT_list_str, kitT_list_list, kitT_list_tuple, kitT_list_none, kitT_str_int, kitT_str_bool, kitT_str_str, kitT_str_list, kitT_str_tuple, kitT_str_none, eqD_int, neD_int, eqD_bl, neD_bl, List.map_cons, List.map_nil, List.replicate, List.cons_append, List.nil_append, List.set_cons_zero, List.set_cons_succ, List.getElem?_cons_zero, List.getElem?_cons_succ, List.length_cons, List.length_nil, List.length_map, List.length_range, bind_ok, bind_err, bind_st, ofO_some, ofO_none, then_ok, then_err, then_st, Option.bind_some, Option.bind_none, Option.map_some, Option.map_none, Nat.zero_add, Nat.reduceAdd, Nat.reduceLeDiff, Nat.reduceEqDiff, ite_true, ite_false, if_true, if_false, reduceIte, Bool.not_true, Bool.not_false, Bool.false_eq_true, decide_eq_true_eq, Bool.not_eq_true, Int.reduceLT, Int.reduceLE, Int.reduceNeg, Int.reduceToNat, Int.reducePow, Int.reduceEq, Int.reduceAdd, Int.reduceSub, Int.reduceMul, Nat.reduceLT, decide_true, decide_false])
theorem rngI_il (lo : Int) (n : Nat) : rngI lo n = il ((List.range n).map fun i : Nat => lo + (i : Int)) := by
  unfold rngI il
  rw [List.map_map]
  rfl
theorem app_il (L : List Int) (x : Int) : il L ++ [D.int x] = il (L ++ [x]) := by simp
theorem il_cons (d : Int) (ds : List Int) : il (d :: ds) = D.int d :: il ds := id rfl

/-! the laws' own numbers -/
theorem lr_loop (C m : Int) : ∀ (ds row : List Int) (rest mixed : Int), row.length + ds.length < LINE →
    ∃ (row' : List Int) (rest' mixed' : Int), forO (gN 5) lb__law_row_0 (il ds) [.v (.int C), .v (.int m), .own (il row), .v (.int rest), .v (.int mixed), .un] = .nx [.v (.int C), .v (.int m), .own (il row'), .v (.int rest'), .v (.int mixed'), .un] ∧
      row'.length = row.length + ds.length ∧ ∀ x ∈ row', x ∈ row ∨ (0 ≤ x ∧ x < 1009)
  | [], row, rest, mixed, _ => ⟨row, rest, mixed, by simp [forO], by simp, fun x h => .inl h⟩
  | d :: ds, row, rest, mixed, hl => by
    rw [List.length_cons] at hl
    rw [il_cons, forO]
    have hl2 : row.length < 16777216 := by unfold LINE at hl; omega
    have key : ∀ (z rest2 mixed2 : Int), (0 ≤ z ∧ z < 1009) → (row ++ [z]).length + ds.length < LINE →
        (∃ (row' : List Int) (rest' mixed' : Int), forO (gN 5) lb__law_row_0 (il ds) [.v (.int C), .v (.int m), .own (il (row ++ [z])), .v (.int rest2), .v (.int mixed2), .un] = .nx [.v (.int C), .v (.int m), .own (il row'), .v (.int rest'), .v (.int mixed'), .un] ∧
          row'.length = row.length + (d :: ds).length ∧ ∀ x ∈ row', x ∈ row ∨ (0 ≤ x ∧ x < 1009)) := fun z rest2 mixed2 hz hl3 => by
      obtain ⟨row', rest', mixed', h1, h2, h3⟩ := lr_loop C m ds (row ++ [z]) rest2 mixed2 hl3
      refine ⟨row', rest', mixed', h1, by rw [h2, List.length_append, List.length_singleton, List.length_cons]; omega, fun x hx => ?_⟩
      rcases h3 x hx with hx | hx
      · rw [List.mem_append, List.mem_singleton] at hx
        rcases hx with hx | rfl
        · exact .inl hx
        · exact .inr hz
      · exact .inr hx
    have hl3 : ∀ z, (row ++ [z]).length + ds.length < LINE := fun z => by rw [List.length_append, List.length_singleton]; omega
    by_cases h : (1000000000000000000 : Int) ≤ (if C < 0 then -C else C)
    · obtain ⟨row', rest', mixed', h1, h2, h3⟩ := key (rest % 1009) (rest / 1009) ((mixed * 16807 + 271 * (d + 3)) % 2147483629) ⟨Int.emod_nonneg _ (by decide), Int.emod_lt_of_pos _ (by decide)⟩ (hl3 _)
      refine ⟨row', rest', mixed', ?_, h2, h3⟩
      rw [← h1, ← app_il]
      simp_arith [at_run, at_retF, rtF_new, rtF_lst, rtF_tup, rtF_int, rtF_str, rtF_bl, rtF_non, rtF_frz, rtF_obj, rN_own, at_retOwnN, at_wp, wp_nx, wp_bk, wp_ct, wp_er, wp_rt, Nat.zero_le, lb__law_row_0, h, hl2, app1_ok]
    · obtain ⟨row', rest', mixed', h1, h2, h3⟩ := key (((mixed * 16807 + 271 * (d + 3)) % 2147483629) / 7 % 1009) rest ((mixed * 16807 + 271 * (d + 3)) % 2147483629) ⟨Int.emod_nonneg _ (by decide), Int.emod_lt_of_pos _ (by decide)⟩ (hl3 _)
      refine ⟨row', rest', mixed', ?_, h2, h3⟩
      rw [← h1, ← app_il]
      simp_arith [at_run, at_retF, rtF_new, rtF_lst, rtF_tup, rtF_int, rtF_str, rtF_bl, rtF_non, rtF_frz, rtF_obj, rN_own, at_retOwnN, at_wp, wp_nx, wp_bk, wp_ct, wp_er, wp_rt, Nat.zero_le, lb__law_row_0, h, hl2, app1_ok]
theorem lr_ok (c m : Int) (h0 : 0 ≤ m) (hm : m ≤ 1000000) : ∃ L : List Int, F__law_row [.int c, .int m] = .ok (.new (il L)) ∧ L.length = m.toNat ∧ ∀ x ∈ L, 0 ≤ x ∧ x < 1009 := by
  obtain ⟨row', rest', mixed', h1, h2, h3⟩ := lr_loop c m ((List.range m.toNat).map fun i : Nat => 0 + (i : Int)) [] (if c < 0 then -c else c) (((if c < 0 then -c else c) * 48271 + 69621) % 2147483647) (by simp [LINE]; omega)
  refine ⟨row', ?_, by rw [h2]; simp, fun x hx => (h3 x hx).elim (fun h => absurd h (List.not_mem_nil)) id⟩
  have hr : -4611686018427387904 ≤ m ∧ m < 4611686018427387904 := by omega
  have e : il ([] : List Int) = [] := rfl
  rw [e] at h1
  simp_arith [at_run, at_retF, rtF_new, rtF_lst, rtF_tup, rtF_int, rtF_str, rtF_bl, rtF_non, rtF_frz, rtF_obj, rN_own, at_retOwnN, at_wp, wp_nx, wp_bk, wp_ct, wp_er, wp_rt, Nat.zero_le, F__law_row, b__law_row, hr.1, hr.2, rngI_il, h1]
theorem ln_app (a0 a1 a2 a3 a5 : Slot) (acc : List Int) : ∀ (ds acc : List Int), acc.length + ds.length < 16777216 →
    forO (gN 6) lb__law_numbers_0 (il ds) [a0, a1, a2, a3, .own (il acc), a5, .un] = .nx [a0, a1, a2, a3, .own (il (acc ++ ds)), a5, .un]
  | [], acc, _ => by simp [forO]
  | d :: ds, acc, hl => by
    rw [List.length_cons] at hl
    have h := ln_app a0 a1 a2 a3 a5 acc ds (acc ++ [d]) (by rw [List.length_append, List.length_singleton]; omega)
    have e2 : acc ++ d :: ds = (acc ++ [d]) ++ ds := by simp
    have hl2 : acc.length < 16777216 := by omega
    rw [e2, ← h, ← app_il, il_cons]
    simp_arith [at_run, at_retF, rtF_new, rtF_lst, rtF_tup, rtF_int, rtF_str, rtF_bl, rtF_non, rtF_frz, rtF_obj, rN_own, at_retOwnN, at_wp, wp_nx, wp_bk, wp_ct, wp_er, wp_rt, Nat.zero_le, lb__law_numbers_0, app1_ok, hl2]
theorem ln_rows (a0 a1 a2 : Slot) (each : Int) (he : 0 ≤ each) (he2 : each ≤ 1000000) : ∀ (ds acc : List Int), (acc.length : Int) + each * ds.length < 16777216 → (∀ x ∈ acc, 0 ≤ x ∧ x < 1009) →
    ∃ (acc' : List Int), forO (gN 5) lb__law_numbers_1 (il ds) [a0, a1, a2, .v (.int each), .own (il acc), .un, .un] = .nx [a0, a1, a2, .v (.int each), .own (il acc'), .un, .un] ∧ (acc'.length : Int) = acc.length + each * ds.length ∧ ∀ x ∈ acc', 0 ≤ x ∧ x < 1009
  | [], acc, _, ha => ⟨acc, by simp [forO], by simp, ha⟩
  | d :: ds, acc, hl, ha => by
    obtain ⟨L, hL, hlen, hin⟩ := lr_ok d each he he2
    have e3 : each * ((d :: ds).length : Int) = each * ds.length + each := by rw [List.length_cons]; push_cast; rw [Int.mul_add, Int.mul_one]
    rw [e3] at hl
    have e4 : (L.length : Int) = each := by omega
    have e5 : 0 ≤ each * (ds.length : Int) := Int.mul_nonneg he (by omega)
    have hl3 : acc.length + L.length < 16777216 := by omega
    have h := ln_app a0 a1 a2 (.v (.int each)) (.v (.int d)) acc L acc hl3
    obtain ⟨acc', g1, g2, g3⟩ := ln_rows a0 a1 a2 each he he2 ds (acc ++ L) (by rw [List.length_append]; push_cast; omega) (fun x hx => (List.mem_append.mp hx).elim (ha x) (hin x))
    refine ⟨acc', ?_, ?_, g3⟩
    · rw [← g1, il_cons]
      simp_arith [at_run, at_retF, rtF_new, rtF_lst, rtF_tup, rtF_int, rtF_str, rtF_bl, rtF_non, rtF_frz, rtF_obj, rN_own, at_retOwnN, at_wp, wp_nx, wp_bk, wp_ct, wp_er, wp_rt, Nat.zero_le, lb__law_numbers_1, hL, h]
    · rw [g2, List.length_append]; push_cast; omega
theorem ln_wh (a0 a2 a3 a5 a6 : Slot) (many : Int) (hm : many ≤ 1000000) : ∀ (n : Nat) (acc : List Int), many - acc.length ≤ n → (∀ x ∈ acc, 0 ≤ x ∧ x < 1009) →
    ∃ acc' : List Int, whX lc__law_numbers_0 lb__law_numbers_2 [a0, .v (.int many), a2, a3, .own (il acc), a5, a6] = .nx [a0, .v (.int many), a2, a3, .own (il acc'), a5, a6] ∧ many ≤ acc'.length ∧ ∀ x ∈ acc', 0 ≤ x ∧ x < 1009 := fun n acc hn ha => by
  have key := wh_iter (c := lc__law_numbers_0) (b := lb__law_numbers_2) (fun L : List Int => [a0, .v (.int many), a2, a3, .own (il L), a5, a6]) (fun L => decide ((L.length : Int) < many)) (fun L => L ++ [0])
    (fun L => ∀ x ∈ L, 0 ≤ x ∧ x < 1009) (fun L => (many - L.length).toNat) (fun L hL => by simp_arith [at_run, at_retF, rtF_new, rtF_lst, rtF_tup, rtF_int, rtF_str, rtF_bl, rtF_non, rtF_frz, rtF_obj, rN_own, at_retOwnN, at_wp, wp_nx, wp_bk, wp_ct, wp_er, wp_rt, Nat.zero_le, lc__law_numbers_0]) (fun L hL hg => by
      have hg : (L.length : Int) < many := by simpa using hg
      have hl2 : L.length < 16777216 := by omega
      refine ⟨?_, fun x hx => ?_, ?_⟩
      · rw [← app_il]; simp_arith [at_run, at_retF, rtF_new, rtF_lst, rtF_tup, rtF_int, rtF_str, rtF_bl, rtF_non, rtF_frz, rtF_obj, rN_own, at_retOwnN, at_wp, wp_nx, wp_bk, wp_ct, wp_er, wp_rt, Nat.zero_le, lb__law_numbers_2, app1_ok, hl2]
      · rw [List.mem_append, List.mem_singleton] at hx
        rcases hx with hx | rfl
        · exact hL x hx
        · decide
      · rw [List.length_append, List.length_singleton]; omega) ((many - acc.length).toNat + 1) acc ha (by omega)
  obtain ⟨y, h1, h2, h3, -⟩ := key
  exact ⟨y, at_whX_nx _ h1, by simpa using h3, h2⟩
theorem cut_63 {α : Type} {ns : List α} (h : ns.length ≤ 63) : cutL ns none (some 63) = ns := by
  unfold cutL
  rw [HT.sIx_none, show HT.sIx ns.length ns.length (some (63 : Int)) = min 63 ns.length from HT.sIx_nat _ _ 63]
  rw [Nat.min_eq_right h]
  simp
theorem cut_to {α : Type} {L : List α} {n : Int} (h0 : 0 ≤ n) (h : n ≤ L.length) : cutL L none (some n) = L.take n.toNat := by
  unfold cutL
  rw [HT.sIx_none]
  obtain ⟨k, rfl⟩ := Int.eq_ofNat_of_zero_le h0
  rw [HT.sIx_nat, Nat.min_eq_left (by omega)]
  simp
/-- the law's own numbers: as many as asked for, each from 0 to 1008 -/
theorem ln_ok (ns : List Int) (hn : ns.length ≤ 63) (many : Int) (h0 : 0 ≤ many) (hm : many ≤ 4000) :
    ∃ L : List Int, F__law_numbers [.frz ns, .int many] = .ok (.new (il L)) ∧ (L.length : Int) = many ∧ ∀ x ∈ L, 0 ≤ x ∧ x < 1009 := by
  have hc := cut_63 hn
  generalize hM : (if (ns.length : Int) > 1 then (ns.length : Int) else 1) = M
  have hM1 : 0 < M := by rw [← hM]; split <;> omega
  have hM2 : M < 18446744073709551616 := by rw [← hM]; split <;> omega
  have hM3 : (ns.length : Int) ≤ M := by rw [← hM]; split <;> omega
  have hq0 : 0 ≤ many / M := Int.ediv_nonneg h0 (by omega)
  have hq1 : many / M ≤ many := Int.ediv_le_self _ h0
  have hq2 : many / M * ns.length ≤ many := by
    have a1 : many / M * ns.length ≤ many / M * M := Int.mul_le_mul_of_nonneg_left hM3 hq0
    have a2 : many / M * M ≤ many := Int.ediv_mul_le _ (by omega)
    omega
  have hq3 : (1 + many / M) * (ns.length : Int) = ns.length + many / M * ns.length := by rw [Int.add_mul, Int.one_mul]
  obtain ⟨acc', g1, g2, g3⟩ := ln_rows (.v (.frz ns)) (.v (.int many)) (.v (.lst (il ns))) (1 + many / M) (by omega) (by omega) ns [] (by rw [hq3]; simp only [List.length_nil]; omega) (fun x hx => nomatch hx)
  obtain ⟨acc2, k1, k2, k3⟩ := ln_wh (.v (.frz ns)) (.v (.lst (il ns))) (.v (.int (1 + many / M))) .un .un many (by omega) 4999 acc' (by omega) g3
  refine ⟨acc2.take many.toNat, ?_, ?_, fun x hx => k3 x (List.mem_of_mem_take hx)⟩
  · have e2 : il ([] : List Int) = [] := rfl
    rw [e2] at g1
    have e3 : (ns.map D.int) = il ns := rfl
    have e4 := cut_to (L := il acc2) h0 (by simpa using k2)
    simp_arith [at_run, at_retF, rtF_new, rtF_lst, rtF_tup, rtF_int, rtF_str, rtF_bl, rtF_non, rtF_frz, rtF_obj, rN_own, at_retOwnN, at_wp, wp_nx, wp_bk, wp_ct, wp_er, wp_rt, Nat.zero_le, F__law_numbers, b__law_numbers, hc, hM, hM1, hM2, e3, g1, k1, e4]
    rw [← List.map_take]
  · rw [List.length_take, Nat.min_eq_left (by omega)]; omega
end DL

namespace DL
open PySem L2
local macro_rules
  | `(tactic| simp_arith [$xs,*]) => `(tactic| simp (config := {failIfUnchanged := false}) only [o0, o1, o2, o3, o4, o5, o6, o7, o8, o9, o10, o11, o12, o13, o14, o15, o16, o17, o18, o19, o20, o21, o22, o23, o24, o25, o26, o27, o28, o29, o30, o31, o32, o33, o34, o35, o36, o37, o38, o39, o40, o41, o42, o43, o44, o45, o46, o47, o48, at_seq, at_skip, at_asg, own_new, at_own, at_drop, at_ret, at_retN, rO_own, at_retOwn, at_if, at_brk, at_cnt, at_raise, ooS_some, unp1_tup, at_unp, setAll_nil, setAll_cons, par1_ok, par1_err, at_par2, frz1_own, frz1_v, at_frz, app0_own, at_app, app1_ok, pop0_own, at_pop, clr0_own, at_clr, aug0_int, aug1_int, at_aug, at_for, for_nil, gnx_some, for_cons, at_gN, at_gU,  at_e1, at_e2, at_st, vO_v, vO_own, at_var, at_c, settle_non, settle_bl, settle_int, settle_str, settle_lst, settle_tup, settle_frz, settle_new, add_int, add_str, add_tup, add_lst_lst, add_lst_new, add_lst_bor, add_new_lst, add_new_new, add_new_bor, add_bor_lst, add_bor_new, add_bor_bor, sub_int, mul_r, mul_l, fdiv_p, mod_p, pow_p, neg_int, lt_int, le_int, gt_int, ge_int, is_bl, ni_bl, is_n_non, ni_n_non, is_n_bl, ni_n_bl, is_n_int, ni_n_int, is_n_str, ni_n_str, is_n_lst, ni_n_lst, is_n_tup, ni_n_tup, is_n_new, ni_n_new, is_n_bor, ni_n_bor, items_lst, len_lst, list_lst, tuple_lst, ix_lst, tru_lst, rev_lst, slice_lst, ty_lst, sum_lst, all_lst, any_lst, items_new, len_new, list_new, tuple_new, ix_new, tru_new, rev_new, slice_new, ty_new, sum_new, all_new, any_new, items_bor, len_bor, list_bor, tuple_bor, ix_bor, tru_bor, rev_bor, slice_bor, ty_bor, sum_bor, all_bor, any_bor, len_tup, len_frz, len_str, list_tup, list_frz, tuple_tup, ix_tup, tru_tup, tru_bl, tru_int, tru_non, slice_tup, slice_frz, revT_tup, int_int, int_bl, abs_int, max_int, min_int, blO_bl, ty_non, ty_bl, ty_int, ty_str, ty_tup, at_tst, at_tst0, nB_ok, nB_err, at_notB, at_andB, at_orB, at_andE, at_orE, nE_ok, nE_err, at_notE, at_ifE, at_nilA, at_consA, tupL_ok, lstL_ok, at_tup, at_lst, callL_0, callL_1, callL_2, callL_3, callL_4, callL_5, at_call, at_chK, at_ch2, at_ch0, chR_ok, at_ch, at_isi, obl_some, isi1_at, kit2_t, kit2_f, at_kitT2, slc_ok, at_slice, at_noO, soO_int, at_someO, sq1_tup, sq1_lst, bl1_ok, bl1_err, bl1_st, at_seqI, rg1_int, at_rng1, rg2_int, rg0_ok, at_rng2, lc0_ok, at_lc, wipe_nil, wipe_cons, at_yes, kitT_int_int, kitT_int_bool, kitT_int_str, kitT_int_list, kitT_int_tuple, kitT_int_none, kitT_bool_int, kitT_bool_bool, kitT_bool_str, kitT_bool_list, kitT_bool_tuple, kitT_bool_none, kitT_tuple_int, kitT_tuple_bool, kitT_tuple_str, kitT_tuple_list, kitT_tuple_tuple, kitT_tuple_none, kitT_list_int, kitT_list_bool, kitT_list_str, kitT_list_list, kitT_list_tuple, kitT_list_none, kitT_str_int, kitT_str_bool, kitT_str_str, kitT_str_list, kitT_str_tuple, kitT_str_none, eqD_int, neD_int, eqD_bl, neD_bl, List.map_cons, List.map_nil, List.replicate, List.cons_append, List.nil_append, List.set_cons_zero, List.set_cons_succ, List.getElem?_cons_zero, List.getElem?_cons_succ, List.length_cons, List.length_nil, List.length_map, List.length_range, bind_ok, bind_err, bind_st, ofO_some, ofO_none, then_ok, then_err, then_st, Option.bind_some, Option.bind_none, Option.map_some, Option.map_none, Nat.zero_add, Nat.reduceAdd, Nat.reduceLeDiff, Nat.reduceEqDiff, ite_true, ite_false, if_true, if_false, reduceIte, Bool.not_true, Bool.not_false, Bool.false_eq_true, decide_eq_true_eq, Bool.not_eq_true, Int.reduceLT, Int.reduceLE, Int.reduceNeg, Int.reduceToNat, Int.reducePow, Int.reduceEq, Int.reduceAdd, Int.reduceSub, Int.reduceMul, Nat.reduceLT, decide_true, decide_false, $xs,*])
local macro_rules
  | `(tactic| simp_arith) => `(tactic| simp (config := {failIfUnchanged := false}) only [o0, o1, o2, o3, o4, o5, o6, o7, o8, o9, o10, o11, o12, o13, o14, o15, o16, o17, o18, o19, o20, o21, o22, o23, o24, o25, o26, o27, o28, o29, o30, o31, o32, o33, o34, o35, o36, o37, o38, o39, o40, o41, o42, o43, o44, o45, o46, o47, o48, at_seq, at_skip, at_asg, own_new, at_own, at_drop, at_ret, at_retN, rO_own, at_retOwn, at_if, at_brk, at_cnt, at_raise, ooS_some, unp1_tup, at_unp, setAll_nil, setAll_cons, par1_ok, par1_err, at_par2, frz1_own, frz1_v, at_frz, app0_own, at_app, app1_ok, pop0_own, at_pop, clr0_own, at_clr, aug0_int, aug1_int, at_aug, at_for, for_nil, gnx_some, for_cons, at_gN, at_gU,  at_e1, at_e2, at_st, vO_v, vO_own, at_var, at_c, settle_non, settle_bl, settle_int, settle_str, settle_lst, settle_tup, settle_frz, settle_new, add_int, add_str, add_tup, add_lst_lst, add_lst_new, add_lst_bor, add_new_lst, add_new_new, add_new_bor, add_bor_lst, add_bor_new, add_bor_bor, sub_int, mul_r, mul_l, fdiv_p, mod_p, pow_p, neg_int, lt_int, le_int, gt_int, ge_int, is_bl, ni_bl, is_n_non, ni_n_non, is_n_bl, ni_n_bl, is_n_int, ni_n_int, is_n_str, ni_n_str, is_n_lst, ni_n_lst, is_n_tup, ni_n_tup, is_n_new, ni_n_new, is_n_bor, ni_n_bor, items_lst, len_lst, list_lst, tuple_lst, ix_lst, tru_lst, rev_lst, slice_lst, ty_lst, sum_lst, all_lst, any_lst, items_new, len_new, list_new, tuple_new, ix_new, tru_new, rev_new, slice_new, ty_new, sum_new, all_new, any_new, items_bor, len_bor, list_bor, tuple_bor, ix_bor, tru_bor, rev_bor, slice_bor, ty_bor, sum_bor, all_bor, any_bor, len_tup, len_frz, len_str, list_tup, list_frz, tuple_tup, ix_tup, tru_tup, tru_bl, tru_int, tru_non, slice_tup, slice_frz, revT_tup, int_int, int_bl, abs_int, max_int, min_int, blO_bl, ty_non, ty_bl, ty_int, ty_str, ty_tup, at_tst, at_tst0, nB_ok, nB_err, at_notB, at_andB, at_orB, at_andE, at_orE, nE_ok, nE_err, at_notE, at_ifE, at_nilA, at_consA, tupL_ok, lstL_ok, at_tup, at_lst, callL_0, callL_1, callL_2, callL_3, callL_4, callL_5, at_call, at_chK, at_ch2, at_ch0, chR_ok, at_ch, at_isi, obl_some, isi1_at, kit2_t, kit2_f, at_kitT2, slc_ok, at_slice, at_noO, soO_int, at_someO, sq1_tup, sq1_lst, bl1_ok, bl1_err, bl1_st, at_seqI, rg1_int, at_rng1, rg2_int, rg0_ok, at_rng2, lc0_ok, at_lc, wipe_nil, wipe_cons, at_yes, kitT_int_int, kitT_int_bool, kitT_int_str, kitT_int_list, kitT_int_tuple, kitT_int_none, kitT_bool_int, kitT_bool_bool, kitT_bool_str, kitT_bool_list, kitT_bool_tuple, kitT_bool_none, kitT_tuple_int, kitT_tuple_bool, kitT_tuple_str, kitT_tuple_list, kitT_tuple_tuple, kitT_tuple_none, kitT_list_int, kitT_list_bool, kitT_list_str, kitT_list_list, kitT_list_tuple, kitT_list_none, kitT_str_int, kitT_str_bool, kitT_str_str, kitT_str_list, kitT_str_tuple, kitT_str_none, eqD_int, neD_int, eqD_bl, neD_bl, List.map_cons, List.map_nil, List.replicate, List.cons_append, List.nil_append, List.set_cons_zero, List.set_cons_succ, List.getElem?_cons_zero, List.getElem?_cons_succ, List.length_cons, List.length_nil, List.length_map, List.length_range, bind_ok, bind_err, bind_st, ofO_some, ofO_none, then_ok, then_err, then_st, Option.bind_some, Option.bind_none, Option.map_some, Option.map_none, Nat.zero_add, Nat.reduceAdd, Nat.reduceLeDiff, Nat.reduceEqDiff, ite_true, ite_false, if_true, if_false, reduceIte, Bool.not_true, Bool.not_false, Bool.false_eq_true, decide_eq_true_eq, Bool.not_eq_true, Int.reduceLT, Int.reduceLE, Int.reduceNeg, Int.reduceToNat, Int.reducePow, Int.reduceEq, Int.reduceAdd, Int.reduceSub, Int.reduceMul, Nat.reduceLT, decide_true, decide_false])
/-! words: what is handed in, the check, the laws' own words -/
inductive IsW : D → List Int → Prop
  | t (w : List Int) : IsW (.tup (il w)) w
  | l (w : List Int) : IsW (.lst (il w)) w
def W4 (w : List Int) : Prop := ∀ x ∈ w, 1 ≤ x ∧ x ≤ 4
theorem place_int {x : Int} : F_is_place [.int x] = .ok (.bl (decide (1 ≤ x) && decide (x ≤ 4))) := by
  simp_arith [at_run, at_retF, rtF_new, rtF_lst, rtF_tup, rtF_int, rtF_str, rtF_bl, rtF_non, rtF_frz, rtF_obj, rN_own, at_retOwnN, at_wp, wp_nx, wp_bk, wp_ct, wp_er, wp_rt, Nat.zero_le, F_is_place, b_is_place]
  by_cases h : 1 ≤ x
  · simp_arith [at_run, at_retF, rtF_new, rtF_lst, rtF_tup, rtF_int, rtF_str, rtF_bl, rtF_non, rtF_frz, rtF_obj, rN_own, at_retOwnN, at_wp, wp_nx, wp_bk, wp_ct, wp_er, wp_rt, Nat.zero_le, h]; simp
  · simp_arith [at_run, at_retF, rtF_new, rtF_lst, rtF_tup, rtF_int, rtF_str, rtF_bl, rtF_non, rtF_frz, rtF_obj, rN_own, at_retOwnN, at_wp, wp_nx, wp_bk, wp_ct, wp_er, wp_rt, Nat.zero_le, h]; simp
theorem chk_loop (C : Addr) (w : D) : ∀ W : List Int, W4 W → forO (gN 1) (lb_check_word_0 C) (il W) [.v w, .un] = .nx [.v w, .un]
  | [], _ => rfl
  | x :: W, h => by
    have h1 := h x (List.mem_cons_self ..)
    have e := chk_loop C w W fun y m => h y (List.mem_cons_of_mem _ m)
    rw [il_cons, ← e]
    simp_arith [at_run, at_retF, rtF_new, rtF_lst, rtF_tup, rtF_int, rtF_str, rtF_bl, rtF_non, rtF_frz, rtF_obj, rN_own, at_retOwnN, at_wp, wp_nx, wp_bk, wp_ct, wp_er, wp_rt, Nat.zero_le, lb_check_word_0, place_int, h1.1, h1.2, Bool.true_and]
theorem chk_ok (C : Addr) {d : D} {W : List Int} (i : IsW d W) (h : W4 W) : F_check_word C [d] = .ok .non := by
  cases i with
  | t =>
    have e := chk_loop C (.tup (il W)) W h
    simp_arith [at_run, at_retF, rtF_new, rtF_lst, rtF_tup, rtF_int, rtF_str, rtF_bl, rtF_non, rtF_frz, rtF_obj, rN_own, at_retOwnN, at_wp, wp_nx, wp_bk, wp_ct, wp_er, wp_rt, Nat.zero_le, F_check_word, b_check_word, e]
  | l =>
    have e := chk_loop C (.lst (il W)) W h
    simp_arith [at_run, at_retF, rtF_new, rtF_lst, rtF_tup, rtF_int, rtF_str, rtF_bl, rtF_non, rtF_frz, rtF_obj, rN_own, at_retOwnN, at_wp, wp_nx, wp_bk, wp_ct, wp_er, wp_rt, Nat.zero_le, F_check_word, b_check_word, e]
/-- a comprehension over ints, without a test -/
theorem lc_mapi {i : Nat} {a : Ev} {ρ : Rho} {g : Int → D} : ∀ {ns : List Int}, (∀ n ∈ ns, stE a (ρ.set i (.v (.int n))) = .ok (g n)) → lcO (gN i) yesB a ρ (il ns) = .ok (ns.map g) := fun {ns} h => by
  have := lc_map (G := gN i) (t := yesB) (a := a) (ρ := ρ) (ds := il ns) (F := fun d => match d with | .int n => g n | d => d) (fun d hd => by
    obtain ⟨n, hn, rfl⟩ := List.mem_map.mp hd
    exact ⟨_, rfl, rfl, h n hn⟩)
  rw [this, List.map_map]
  rfl
theorem lw_ok (L : List Int) (hL : ∀ x ∈ L, 0 ≤ x ∧ x < 1009) (a m : Int) (ha : 0 ≤ a) (hm : 0 ≤ m) (hl : a + m ≤ L.length) (hs : L.length ≤ 100000) :
    ∃ W, F__law_word [.lst (il L), .int a, .int m] = .ok (.tup (il W)) ∧ (W.length : Int) = m ∧ W4 W := by
  have hr : -4611686018427387904 ≤ m ∧ m < 4611686018427387904 := by omega
  have e := lc_mapi (i := 3) (a := le__law_word_0) (ρ := [.v (.lst (il L)), .v (.int a), .v (.int m), .un]) (g := fun k => .int (1 + L.getD (a + k).toNat 0 % 4)) (ns := (List.range m.toNat).map fun i : Nat => 0 + (i : Int)) (fun n hn => by
    obtain ⟨i, hi, rfl⟩ := List.mem_map.mp hn
    rw [List.mem_range] at hi
    have e := atI_ints (l := L) (i := a + (0 + (i : Int))) (by omega) (by omega)
    simp_arith [at_run, at_retF, rtF_new, rtF_lst, rtF_tup, rtF_int, rtF_str, rtF_bl, rtF_non, rtF_frz, rtF_obj, rN_own, at_retOwnN, at_wp, wp_nx, wp_bk, wp_ct, wp_er, wp_rt, Nat.zero_le, le__law_word_0, e])
  refine ⟨((List.range m.toNat).map fun i : Nat => 0 + (i : Int)).map fun k => 1 + L.getD (a + k).toNat 0 % 4, ?_, by simp; omega, fun x hx => ?_⟩
  · have h2 : m.toNat ≤ 16777216 := by omega
    simp_arith [at_run, at_retF, rtF_new, rtF_lst, rtF_tup, rtF_int, rtF_str, rtF_bl, rtF_non, rtF_frz, rtF_obj, rN_own, at_retOwnN, at_wp, wp_nx, wp_bk, wp_ct, wp_er, wp_rt, Nat.zero_le, F__law_word, b__law_word, hr.1, hr.2, rngI_il, e, h2]
    simp [il, List.map_map]
  · obtain ⟨k, _, rfl⟩ := List.mem_map.mp hx
    have := Int.emod_nonneg (L.getD (a + k).toNat 0) (show (4 : Int) ≠ 0 by decide)
    have := Int.emod_lt_of_pos (L.getD (a + k).toNat 0) (show (0 : Int) < 4 by decide)
    omega
end DL

namespace DL
open PySem L2
local macro_rules
  | `(tactic| simp_arith [$xs,*]) => `(tactic| simp (config := {failIfUnchanged := false}) only [o0, o1, o2, o3, o4, o5, o6, o7, o8, o9, o10, o11, o12, o13, o14, o15, o16, o17, o18, o19, o20, o21, o22, o23, o24, o25, o26, o27, o28, o29, o30, o31, o32, o33, o34, o35, o36, o37, o38, o39, o40, o41, o42, o43, o44, o45, o46, o47, o48, at_seq, at_skip, at_asg, own_new, at_own, at_drop, at_ret, at_retN, rO_own, at_retOwn, at_if, at_brk, at_cnt, at_raise, ooS_some, unp1_tup, at_unp, setAll_nil, setAll_cons, par1_ok, par1_err, at_par2, frz1_own, frz1_v, at_frz, app0_own, at_app, app1_ok, pop0_own, at_pop, clr0_own, at_clr, aug0_int, aug1_int, at_aug, at_for, for_nil, gnx_some, for_cons, at_gN, at_gU,  at_e1, at_e2, at_st, vO_v, vO_own, at_var, at_c, settle_non, settle_bl, settle_int, settle_str, settle_lst, settle_tup, settle_frz, settle_new, add_int, add_str, add_tup, add_lst_lst, add_lst_new, add_lst_bor, add_new_lst, add_new_new, add_new_bor, add_bor_lst, add_bor_new, add_bor_bor, sub_int, mul_r, mul_l, fdiv_p, mod_p, pow_p, neg_int, lt_int, le_int, gt_int, ge_int, is_bl, ni_bl, is_n_non, ni_n_non, is_n_bl, ni_n_bl, is_n_int, ni_n_int, is_n_str, ni_n_str, is_n_lst, ni_n_lst, is_n_tup, ni_n_tup, is_n_new, ni_n_new, is_n_bor, ni_n_bor, items_lst, len_lst, list_lst, tuple_lst, ix_lst, tru_lst, rev_lst, slice_lst, ty_lst, sum_lst, all_lst, any_lst, items_new, len_new, list_new, tuple_new, ix_new, tru_new, rev_new, slice_new, ty_new, sum_new, all_new, any_new, items_bor, len_bor, list_bor, tuple_bor, ix_bor, tru_bor, rev_bor, slice_bor, ty_bor, sum_bor, all_bor, any_bor, len_tup, len_frz, len_str, list_tup, list_frz, tuple_tup, ix_tup, tru_tup, tru_bl, tru_int, tru_non, slice_tup, slice_frz, revT_tup, int_int, int_bl, abs_int, max_int, min_int, blO_bl, ty_non, ty_bl, ty_int, ty_str, ty_tup, at_tst, at_tst0, nB_ok, nB_err, at_notB, at_andB, at_orB, at_andE, at_orE, nE_ok, nE_err, at_notE, at_ifE, at_nilA, at_consA, tupL_ok, lstL_ok, at_tup, at_lst, callL_0, callL_1, callL_2, callL_3, callL_4, callL_5, at_call, at_chK, at_ch2, at_ch0, chR_ok, at_ch, at_isi, obl_some, isi1_at, kit2_t, kit2_f, at_kitT2, slc_ok, at_slice, at_noO, soO_int, at_someO, sq1_tup, sq1_lst, bl1_ok, bl1_err, bl1_st, at_seqI, rg1_int, at_rng1, rg2_int, rg0_ok, at_rng2, lc0_ok, at_lc, wipe_nil, wipe_cons, at_yes, kitT_int_int, kitT_int_bool, kitT_int_str, kitT_int_list, kitT_int_tuple, kitT_int_none, kitT_bool_int, kitT_bool_bool, kitT_bool_str, kitT_bool_list, kitT_bool_tuple, kitT_bool_none, kitT_tuple_int, kitT_tuple_bool, kitT_tuple_str, kitT_tuple_list, kitT_tuple_tuple, kitT_tuple_none, kitT_list_int, kitT_list_bool, kitT_list_str, kitT_list_list, kitT_list_tuple, kitT_list_none, kitT_str_int, kitT_str_bool, kitT_str_str, kitT_str_list, kitT_str_tuple, kitT_str_none, eqD_int, neD_int, eqD_bl, neD_bl, List.map_cons, List.map_nil, List.replicate, List.cons_append, List.nil_append, List.set_cons_zero, List.set_cons_succ, List.getElem?_cons_zero, List.getElem?_cons_succ, List.length_cons, List.length_nil, List.length_map, List.length_range, bind_ok, bind_err, bind_st, ofO_some, ofO_none, then_ok, then_err, then_st, Option.bind_some, Option.bind_none, Option.map_some, Option.map_none, Nat.zero_add, Nat.reduceAdd, Nat.reduceLeDiff, Nat.reduceEqDiff, ite_true, ite_false, if_true, if_false, reduceIte, Bool.not_true, Bool.not_false, Bool.false_eq_true, decide_eq_true_eq, Bool.not_eq_true, Int.reduceLT, Int.reduceLE, Int.reduceNeg, Int.reduceToNat, Int.reducePow, Int.reduceEq, Int.reduceAdd, Int.reduceSub, Int.reduceMul, Nat.reduceLT, decide_true, decide_false, $xs,*])
local macro_rules
  | `(tactic| simp_arith) => `(tactic| simp (config := {failIfUnchanged := false}) only [o0, o1, o2, o3, o4, o5, o6, o7, o8, o9, o10, o11, o12, o13, o14, o15, o16, o17, o18, o19, o20, o21, o22, o23, o24, o25, o26, o27, o28, o29, o30, o31, o32, o33, o34, o35, o36, o37, o38, o39, o40, o41, o42, o43, o44, o45, o46, o47, o48, at_seq, at_skip, at_asg, own_new, at_own, at_drop, at_ret, at_retN, rO_own, at_retOwn, at_if, at_brk, at_cnt, at_raise, ooS_some, unp1_tup, at_unp, setAll_nil, setAll_cons, par1_ok, par1_err, at_par2, frz1_own, frz1_v, at_frz, app0_own, at_app, app1_ok, pop0_own, at_pop, clr0_own, at_clr, aug0_int, aug1_int, at_aug, at_for, for_nil, gnx_some, for_cons, at_gN, at_gU,  at_e1, at_e2, at_st, vO_v, vO_own, at_var, at_c, settle_non, settle_bl, settle_int, settle_str, settle_lst, settle_tup, settle_frz, settle_new, add_int, add_str, add_tup, add_lst_lst, add_lst_new, add_lst_bor, add_new_lst, add_new_new, add_new_bor, add_bor_lst, add_bor_new, add_bor_bor, sub_int, mul_r, mul_l, fdiv_p, mod_p, pow_p, neg_int, lt_int, le_int, gt_int, ge_int, is_bl, ni_bl, is_n_non, ni_n_non, is_n_bl, ni_n_bl, is_n_int, ni_n_int, is_n_str, ni_n_str, is_n_lst, ni_n_lst, is_n_tup, ni_n_tup, is_n_new, ni_n_new, is_n_bor, ni_n_bor, items_lst, len_lst, list_lst, tuple_lst, ix_lst, tru_lst, rev_lst, slice_lst, ty_lst, sum_lst, all_lst, any_lst, items_new, len_new, list_new, tuple_new, ix_new, tru_new, rev_new, slice_new, ty_new, sum_new, all_new, any_new, items_bor, len_bor, list_bor, tuple_bor, ix_bor, tru_bor, rev_bor, slice_bor, ty_bor, sum_bor, all_bor, any_bor, len_tup, len_frz, len_str, list_tup, list_frz, tuple_tup, ix_tup, tru_tup, tru_bl, tru_int, tru_non, slice_tup, slice_frz, revT_tup, int_int, int_bl, abs_int, max_int, min_int, blO_bl, ty_non, ty_bl, ty_int, ty_str, ty_tup, at_tst, at_tst0, nB_ok, nB_err, at_notB, at_andB, at_orB, at_andE, at_orE, nE_ok, nE_err, at_notE, at_ifE, at_nilA, at_consA, tupL_ok, lstL_ok, at_tup, at_lst, callL_0, callL_1, callL_2, callL_3, callL_4, callL_5, at_call, at_chK, at_ch2, at_ch0, chR_ok, at_ch, at_isi, obl_some, isi1_at, kit2_t, kit2_f, at_kitT2, slc_ok, at_slice, at_noO, soO_int, at_someO, sq1_tup, sq1_lst, bl1_ok, bl1_err, bl1_st, at_seqI, rg1_int, at_rng1, rg2_int, rg0_ok, at_rng2, lc0_ok, at_lc, wipe_nil, wipe_cons, at_yes, kitT_int_int, kitT_int_bool, kitT_int_str, kitT_int_list, kitT_int_tuple, kitT_int_none, kitT_bool_int, kitT_bool_bool, kitT_bool_str, kitT_bool_list, kitT_bool_tuple, kitT_bool_none, kitT_tuple_int, kitT_tuple_bool, kitT_tuple_str, kitT_tuple_list, kitT_tuple_tuple, kitT_tuple_none, kitT_list_int, kitT_list_bool, kitT_list_str, kitT_list_list, kitT_list_tuple, kitT_list_none, kitT_str_int, kitT_str_bool, kitT_str_str, kitT_str_list, kitT_str_tuple, kitT_str_none, eqD_int, neD_int, eqD_bl, neD_bl, List.map_cons, List.map_nil, List.replicate, List.cons_append, List.nil_append, List.set_cons_zero, List.set_cons_succ, List.getElem?_cons_zero, List.getElem?_cons_succ, List.length_cons, List.length_nil, List.length_map, List.length_range, bind_ok, bind_err, bind_st, ofO_some, ofO_none, then_ok, then_err, then_st, Option.bind_some, Option.bind_none, Option.map_some, Option.map_none, Nat.zero_add, Nat.reduceAdd, Nat.reduceLeDiff, Nat.reduceEqDiff, ite_true, ite_false, if_true, if_false, reduceIte, Bool.not_true, Bool.not_false, Bool.false_eq_true, decide_eq_true_eq, Bool.not_eq_true, Int.reduceLT, Int.reduceLE, Int.reduceNeg, Int.reduceToNat, Int.reducePow, Int.reduceEq, Int.reduceAdd, Int.reduceSub, Int.reduceMul, Nat.reduceLT, decide_true, decide_false])
/-! curvatures of four, exchanged -/
abbrev T4 (a b c d : Int) : D := .tup [.int a, .int b, .int c, .int d]
theorem il4 (a b c d : Int) : il [a, b, c, d] = [.int a, .int b, .int c, .int d] := id rfl
theorem sum4 (a b c d : Int) : sumA (T4 a b c d) = some (.int (a + b + c + d)) := by
  have := sumA_tup (ns := [a, b, c, d])
  rw [il4] at this
  rw [this]
  simp
  omega
/-- stores into an own list -/
def set2 (ρ : Rho) (i : Nat) (ds : List D) (d k : D) : Out := match k with
    | .int k => (match ixN ds.length k with
      | some j => .nx (ρ.set i (.own (ds.set j d)))
      | none => .st)
    | _ => .st
def set1 (o : Option Slot) (ρ : Rho) (i : Nat) (fk fe : Ev) : Out := match o with
  | some (.own ds) => (stE fe ρ).then ρ fun d => (fk ρ).then ρ (set2 ρ i ds d)
  | _ => .st
theorem at_set {i : Nat} {fk fe : Ev} {ρ : Rho} : setS i fk fe ρ = set1 ρ[i]? ρ i fk fe := id rfl
theorem set1_own {ρ : Rho} {i : Nat} {ds : List D} {fk fe : Ev} : set1 (some (.own ds)) ρ i fk fe = (stE fe ρ).then ρ fun d => (fk ρ).then ρ (set2 ρ i ds d) := id rfl
theorem set2_int {ρ : Rho} {i : Nat} {ds : List D} {d : D} {k : Int} (h0 : 0 ≤ k) (h1 : k < ds.length) : set2 ρ i ds d (.int k) = .nx (ρ.set i (.own (ds.set k.toNat d))) := by
  unfold set2 L2.ixN
  simp only [if_pos h0, if_pos h1]
def exq (n : Int) (q : Int × Int × Int × Int) : Int × Int × Int × Int := match q with
  | (a, b, c, d) => if n = 1 then (2 * (a + b + c + d) - 3 * a, b, c, d) else if n = 2 then (a, 2 * (a + b + c + d) - 3 * b, c, d) else if n = 3 then (a, b, 2 * (a + b + c + d) - 3 * c, d) else (a, b, c, 2 * (a + b + c + d) - 3 * d)
abbrev Tq (q : Int × Int × Int × Int) : D := T4 q.1 q.2.1 q.2.2.1 q.2.2.2
theorem n4 {n : Int} (h : 1 ≤ n ∧ n ≤ 4) : n = 1 ∨ n = 2 ∨ n = 3 ∨ n = 4 := by omega
theorem at4_0 {α : Type} {a b c d : α} : L2.atI [a, b, c, d] 0 = some a := id rfl
theorem at4_1 {α : Type} {a b c d : α} : L2.atI [a, b, c, d] 1 = some b := id rfl
theorem at4_2 {α : Type} {a b c d : α} : L2.atI [a, b, c, d] 2 = some c := id rfl
theorem at4_3 {α : Type} {a b c d : α} : L2.atI [a, b, c, d] 3 = some d := id rfl
theorem at1_0 {α : Type} {a : α} : L2.atI [a] 0 = some a := id rfl
theorem lx_ok (q : Int × Int × Int × Int) {n : Int} (h : 1 ≤ n ∧ n ≤ 4) : F__law_exchange [Tq q, .int n] = .ok (Tq (exq n q)) := by
  obtain ⟨a, b, c, d⟩ := q
  rcases n4 h with rfl | rfl | rfl | rfl
  all_goals
    simp_arith [at_run, at_retF, rtF_new, rtF_lst, rtF_tup, rtF_int, rtF_str, rtF_bl, rtF_non, rtF_frz, rtF_obj, rN_own, at_retOwnN, at_wp, wp_nx, wp_bk, wp_ct, wp_er, wp_rt, Nat.zero_le, F__law_exchange, b__law_exchange, Tq, sum4, at_set, set1_own, set2_int, at4_0, at4_1, at4_2, at4_3, mul_l, exq]
    first | rfl | simp
/-! the program's rows -/
abbrev Rq (q : Int × Int × Int × Int) : D := .tup [.tup [.int q.1], .tup [.int q.2.1], .tup [.int q.2.2.1], .tup [.int q.2.2.2]]
def z1 (d : D) : Res (List D) := ofO (zs4 d)
theorem at_zsI {f : Ev} {ρ : Rho} : zsI f ρ = (stE f ρ).bl1 z1 := by unfold zsI Res.bl1 z1; cases stE f ρ <;> rfl
theorem z1_t {as bs cs ds : List D} : z1 (.tup [.tup as, .tup bs, .tup cs, .tup ds]) = .ok (zip4 as bs cs ds) := id rfl
theorem z1_l {as bs cs ds : List D} : z1 (.lst [.tup as, .tup bs, .tup cs, .tup ds]) = .ok (zip4 as bs cs ds) := id rfl
theorem zip4_cons {a b c d : D} {as bs cs ds : List D} : zip4 (a :: as) (b :: bs) (c :: cs) (d :: ds) = .tup [a, b, c, d] :: zip4 as bs cs ds := id rfl
theorem zip4_nil {bs cs ds : List D} : zip4 [] bs cs ds = [] := id rfl
theorem lc_nil {G : D → Rho → Option Rho} {t : Eb} {e : Ev} {ρ : Rho} : lcO G t e ρ [] = .ok [] := id rfl
def lcS (r : Option Rho) (t : Eb) (e : Ev) (k : Res (List D)) : Res (List D) := match r with
    | none => .st
    | some ρ1 => (sure (t ρ1)).bind fun b => if b = true then (sure (stE e ρ1)).bind fun x => k.bind fun xs => .ok (x :: xs) else k
theorem lc_cons {G : D → Rho → Option Rho} {t : Eb} {e : Ev} {ρ : Rho} {d : D} {ds : List D} : lcO G t e ρ (d :: ds) = lcS (G d ρ) t e (lcO G t e ρ ds) := by
  rw [lcO]
  unfold lcS
  cases G d ρ <;> rfl
theorem lcS_some {ρ1 : Rho} {t : Eb} {e : Ev} {k : Res (List D)} : lcS (some ρ1) t e k = (sure (t ρ1)).bind fun b => if b = true then (sure (stE e ρ1)).bind fun x => k.bind fun xs => .ok (x :: xs) else k := id rfl
theorem sure_ok {α : Type} {a : α} : sure (.ok a) = .ok a := id rfl
/-- cuts of four -/
theorem cut4_l0 {α : Type} {a b c d : α} : cutL [a, b, c, d] none (some 0) = [] := id rfl
theorem cut4_l1 {α : Type} {a b c d : α} : cutL [a, b, c, d] none (some 1) = [a] := id rfl
theorem cut4_l2 {α : Type} {a b c d : α} : cutL [a, b, c, d] none (some 2) = [a, b] := id rfl
theorem cut4_l3 {α : Type} {a b c d : α} : cutL [a, b, c, d] none (some 3) = [a, b, c] := id rfl
theorem cut4_r0 {α : Type} {a b c d : α} : cutL [a, b, c, d] (some 0) none = [a, b, c, d] := id rfl
theorem cut4_r1 {α : Type} {a b c d : α} : cutL [a, b, c, d] (some 1) none = [b, c, d] := id rfl
theorem cut4_r2 {α : Type} {a b c d : α} : cutL [a, b, c, d] (some 2) none = [c, d] := id rfl
theorem cut4_r3 {α : Type} {a b c d : α} : cutL [a, b, c, d] (some 3) none = [d] := id rfl
theorem cut4_r4 {α : Type} {a b c d : α} : cutL [a, b, c, d] (some 4) none = [] := id rfl
theorem mr_ok (q : Int × Int × Int × Int) {n : Int} (h : 1 ≤ n ∧ n ≤ 4) : F_made_row [Rq q, .int n] = .ok (.tup [.int (2 * (q.1 + q.2.1 + q.2.2.1 + q.2.2.2) - 3 * (if n = 1 then q.1 else if n = 2 then q.2.1 else if n = 3 then q.2.2.1 else q.2.2.2))]) := by
  obtain ⟨a, b, c, d⟩ := q
  rcases n4 h with rfl | rfl | rfl | rfl
  all_goals
    simp_arith [at_run, at_retF, rtF_new, rtF_lst, rtF_tup, rtF_int, rtF_str, rtF_bl, rtF_non, rtF_frz, rtF_obj, rN_own, at_retOwnN, at_wp, wp_nx, wp_bk, wp_ct, wp_er, wp_rt, Nat.zero_le, F_made_row, b_made_row, at_zsI, z1_t, zip4_cons, zip4_nil, lc_cons, lc_nil, lcS_some, sure_ok, le_made_row_0, sum4, at4_0, at4_1, at4_2, at4_3, mul_l]
theorem xr_ok (q : Int × Int × Int × Int) {n : Int} (h : 1 ≤ n ∧ n ≤ 4) : F_exchanged_rows [Rq q, .int n] = .ok (Rq (exq n q)) := by
  have e := mr_ok q h
  obtain ⟨a, b, c, d⟩ := q
  rcases n4 h with rfl | rfl | rfl | rfl
  all_goals
    simp_arith [at_run, at_retF, rtF_new, rtF_lst, rtF_tup, rtF_int, rtF_str, rtF_bl, rtF_non, rtF_frz, rtF_obj, rN_own, at_retOwnN, at_wp, wp_nx, wp_bk, wp_ct, wp_er, wp_rt, Nat.zero_le, F_exchanged_rows, b_exchanged_rows, e, cut4_l0, cut4_l1, cut4_l2, cut4_l3, cut4_r1, cut4_r2, cut4_r3, cut4_r4, add_tup, exq]
theorem c4 : ((4 : Nat) : Int) = 4 := rfl
theorem b44 : ((4 : Int) == 4) = true := rfl
theorem d44 : ((4 : Nat) = 4) = True := by simp
def sq (n : Int) : Int := n * n
def fits (ns : List Int) : Bool := decide (ns.length = 4) && (decide (0 < ns.sum) && (ns.sum * ns.sum == 2 * (ns.map sq).sum))
theorem sum_bd {B : Int} : ∀ (ns : List Int), (∀ x ∈ ns, -B < x ∧ x < B) → -(B * ns.length) ≤ ns.sum ∧ ns.sum ≤ B * ns.length
  | [], _ => by simp
  | x :: ns, h => by
    have h1 := h x (List.mem_cons_self ..)
    have h2 := sum_bd ns fun y m => h y (List.mem_cons_of_mem _ m)
    rw [List.sum_cons, List.length_cons]
    push_cast
    rw [Int.mul_add, Int.mul_one]
    omega
theorem iq_ok {d : D} {ns : List Int} (i : IsW d ns) (hb : ∀ x ∈ ns, -1152921504606846976 < x ∧ x < 1152921504606846976) (hl : ns.length ≤ 8) : F_is_quadruple [d] = .ok (.bl (fits ns)) := by
  have e := fun a1 : Slot => fun a0 : Slot => lc_mapi (i := 2) (a := le_is_quadruple_0) (ρ := [a0, a1, .un]) (g := fun k => .int (sq k)) (ns := ns) (fun n hn => by
    obtain ⟨h1, h2⟩ := hb n hn
    have h3 : -18446744073709551616 < n := by omega
    have h4 : n < 18446744073709551616 := by omega
    simp_arith [at_run, at_retF, rtF_new, rtF_lst, rtF_tup, rtF_int, rtF_str, rtF_bl, rtF_non, rtF_frz, rtF_obj, rN_own, at_retOwnN, at_wp, wp_nx, wp_bk, wp_ct, wp_er, wp_rt, Nat.zero_le, le_is_quadruple_0, mul_l, h3, h4, sq])
  have e3 : ∀ l : List Int, l.map (fun k => D.int (sq k)) = il (l.map sq) := fun l => by rw [il, List.map_map]; rfl
  have s := sum_bd ns hb
  have s1 : -18446744073709551616 < ns.sum := by omega
  have s2 : ns.sum < 18446744073709551616 := by omega
  have h8 : ns.length ≤ 16777216 := by omega
  have s1 : -18446744073709551616 < ns.sum := by omega
  have s2 : ns.sum < 18446744073709551616 := by omega
  unfold fits
  cases i with
  | t =>
    by_cases h4 : ns.length = 4
    · by_cases hs : 0 < ns.sum
      · simp_arith [at_run, at_retF, rtF_new, rtF_lst, rtF_tup, rtF_int, rtF_str, rtF_bl, rtF_non, rtF_frz, rtF_obj, rN_own, at_retOwnN, at_wp, wp_nx, wp_bk, wp_ct, wp_er, wp_rt, Nat.zero_le, F_is_quadruple, b_is_quadruple, h4, c4, bne_self_eq_false, sumA_tup, e, e3, sumA_new, mul_l, s1, s2, hs, Bool.true_and]
      · simp_arith [at_run, at_retF, rtF_new, rtF_lst, rtF_tup, rtF_int, rtF_str, rtF_bl, rtF_non, rtF_frz, rtF_obj, rN_own, at_retOwnN, at_wp, wp_nx, wp_bk, wp_ct, wp_er, wp_rt, Nat.zero_le, F_is_quadruple, b_is_quadruple, h4, c4, bne_self_eq_false, sumA_tup, e, e3, sumA_new, mul_l, s1, s2, hs, Bool.true_and, Bool.false_and]
    · have h5 : ((ns.length : Int) != 4) = true := by rw [bne_iff_ne]; omega
      simp_arith [at_run, at_retF, rtF_new, rtF_lst, rtF_tup, rtF_int, rtF_str, rtF_bl, rtF_non, rtF_frz, rtF_obj, rN_own, at_retOwnN, at_wp, wp_nx, wp_bk, wp_ct, wp_er, wp_rt, Nat.zero_le, F_is_quadruple, b_is_quadruple, h5, h4, Bool.false_and]
  | l =>
    by_cases h4 : ns.length = 4
    · by_cases hs : 0 < ns.sum
      · simp_arith [at_run, at_retF, rtF_new, rtF_lst, rtF_tup, rtF_int, rtF_str, rtF_bl, rtF_non, rtF_frz, rtF_obj, rN_own, at_retOwnN, at_wp, wp_nx, wp_bk, wp_ct, wp_er, wp_rt, Nat.zero_le, F_is_quadruple, b_is_quadruple, h4, c4, bne_self_eq_false, sumA_lst, e, e3, sumA_new, mul_l, s1, s2, hs, Bool.true_and]
      · simp_arith [at_run, at_retF, rtF_new, rtF_lst, rtF_tup, rtF_int, rtF_str, rtF_bl, rtF_non, rtF_frz, rtF_obj, rN_own, at_retOwnN, at_wp, wp_nx, wp_bk, wp_ct, wp_er, wp_rt, Nat.zero_le, F_is_quadruple, b_is_quadruple, h4, c4, bne_self_eq_false, sumA_lst, e, e3, sumA_new, mul_l, s1, s2, hs, Bool.true_and, Bool.false_and]
    · have h5 : ((ns.length : Int) != 4) = true := by rw [bne_iff_ne]; omega
      simp_arith [at_run, at_retF, rtF_new, rtF_lst, rtF_tup, rtF_int, rtF_str, rtF_bl, rtF_non, rtF_frz, rtF_obj, rN_own, at_retOwnN, at_wp, wp_nx, wp_bk, wp_ct, wp_er, wp_rt, Nat.zero_le, F_is_quadruple, b_is_quadruple, h5, h4, Bool.false_and]
theorem lf_ok {ns : List Int} (hb : ∀ x ∈ ns, -1152921504606846976 < x ∧ x < 1152921504606846976) (hl : ns.length ≤ 8) : F__law_fits [.tup (il ns)] = .ok (.bl (fits ns)) := by
  have e := fun a1 : Slot => fun a0 : Slot => fun a2 : Slot => lc_mapi (i := 3) (a := le__law_fits_0) (ρ := [a0, a1, a2, .un]) (g := fun k => .int (sq k)) (ns := ns) (fun n hn => by
    obtain ⟨h1, h2⟩ := hb n hn
    have h3 : -18446744073709551616 < n := by omega
    have h4 : n < 18446744073709551616 := by omega
    simp_arith [at_run, at_retF, rtF_new, rtF_lst, rtF_tup, rtF_int, rtF_str, rtF_bl, rtF_non, rtF_frz, rtF_obj, rN_own, at_retOwnN, at_wp, wp_nx, wp_bk, wp_ct, wp_er, wp_rt, Nat.zero_le, le__law_fits_0, mul_l, h3, h4, sq])
  have e3 : ∀ l : List Int, l.map (fun k => D.int (sq k)) = il (l.map sq) := fun l => by rw [il, List.map_map]; rfl
  have s := sum_bd ns hb
  have s1 : -18446744073709551616 < ns.sum := by omega
  have s2 : ns.sum < 18446744073709551616 := by omega
  have h8 : ns.length ≤ 16777216 := by omega
  unfold fits
  by_cases h4 : ns.length = 4
  · by_cases hs : 0 < ns.sum
    · simp_arith [at_run, at_retF, rtF_new, rtF_lst, rtF_tup, rtF_int, rtF_str, rtF_bl, rtF_non, rtF_frz, rtF_obj, rN_own, at_retOwnN, at_wp, wp_nx, wp_bk, wp_ct, wp_er, wp_rt, Nat.zero_le, F__law_fits, b__law_fits, h8, h4, c4, b44, sumA_tup, e, e3, sumA_new, mul_l, s1, s2, hs, Bool.true_and, beq_self_eq_true]
    · simp_arith [at_run, at_retF, rtF_new, rtF_lst, rtF_tup, rtF_int, rtF_str, rtF_bl, rtF_non, rtF_frz, rtF_obj, rN_own, at_retOwnN, at_wp, wp_nx, wp_bk, wp_ct, wp_er, wp_rt, Nat.zero_le, F__law_fits, b__law_fits, h8, h4, c4, b44, sumA_tup, e, e3, sumA_new, mul_l, s1, s2, hs, Bool.true_and, Bool.false_and, beq_self_eq_true]
  · have h5 : ((ns.length : Int) == 4) = false := by rw [beq_eq_false_iff_ne]; omega
    simp_arith [at_run, at_retF, rtF_new, rtF_lst, rtF_tup, rtF_int, rtF_str, rtF_bl, rtF_non, rtF_frz, rtF_obj, rN_own, at_retOwnN, at_wp, wp_nx, wp_bk, wp_ct, wp_er, wp_rt, Nat.zero_le, F__law_fits, b__law_fits, h8, h5, h4, sumA_tup, e, e3, sumA_new, Bool.false_and]
/-! fours along a word -/
theorem as_ok (q : Int × Int × Int × Int) : F_as_rows [Tq q] = .ok (Rq q) := by
  obtain ⟨a, b, c, d⟩ := q
  simp_arith [at_run, at_retF, rtF_new, rtF_lst, rtF_tup, rtF_int, rtF_str, rtF_bl, rtF_non, rtF_frz, rtF_obj, rN_own, at_retOwnN, at_wp, wp_nx, wp_bk, wp_ct, wp_er, wp_rt, Nat.zero_le, F_as_rows, b_as_rows, lc_cons, lc_nil, lcS_some, sure_ok, le_as_rows_0]
theorem as_okl (q : Int × Int × Int × Int) : F_as_rows [.lst [.int q.1, .int q.2.1, .int q.2.2.1, .int q.2.2.2]] = .ok (Rq q) := by
  obtain ⟨a, b, c, d⟩ := q
  simp_arith [at_run, at_retF, rtF_new, rtF_lst, rtF_tup, rtF_int, rtF_str, rtF_bl, rtF_non, rtF_frz, rtF_obj, rN_own, at_retOwnN, at_wp, wp_nx, wp_bk, wp_ct, wp_er, wp_rt, Nat.zero_le, F_as_rows, b_as_rows, lc_cons, lc_nil, lcS_some, sure_ok, le_as_rows_0]
theorem ac_ok (q : Int × Int × Int × Int) : F_as_curvatures [Rq q] = .ok (Tq q) := by
  obtain ⟨a, b, c, d⟩ := q
  simp_arith [at_run, at_retF, rtF_new, rtF_lst, rtF_tup, rtF_int, rtF_str, rtF_bl, rtF_non, rtF_frz, rtF_obj, rN_own, at_retOwnN, at_wp, wp_nx, wp_bk, wp_ct, wp_er, wp_rt, Nat.zero_le, F_as_curvatures, b_as_curvatures, lc_cons, lc_nil, lcS_some, sure_ok, le_as_curvatures_0, at1_0]
/-- the fours behind each exchange -/
def scq : List Int → Int × Int × Int × Int → List (Int × Int × Int × Int)
  | [], _ => []
  | n :: w, q => exq n q :: scq w (exq n q)
def lastq (w : List Int) (q : Int × Int × Int × Int) : Int × Int × Int × Int := w.foldl (fun q n => exq n q) q
theorem ra_loop : ∀ (W : List Int), W4 W → ∀ (q : Int × Int × Int × Int) (acc : List D) (w : D), acc.length + W.length < 16777216 →
    forO (gN 3) lb_rows_along_0 (il W) [.v (Rq q), .v w, .own acc, .un] = .nx [.v (Rq (lastq W q)), .v w, .own (acc ++ (scq W q).map Rq), .un]
  | [], _, q, acc, w, _ => by simp [forO, scq, lastq]
  | n :: W, h, q, acc, w, hl => by
    rw [List.length_cons] at hl
    have hn := h n (List.mem_cons_self ..)
    have hl2 : acc.length < 16777216 := by omega
    have ih := ra_loop W (fun y m => h y (List.mem_cons_of_mem _ m)) (exq n q) (acc ++ [Rq (exq n q)]) w (by rw [List.length_append, List.length_singleton]; omega)
    have e1 : acc ++ (scq (n :: W) q).map Rq = acc ++ [Rq (exq n q)] ++ (scq W (exq n q)).map Rq := by simp [scq]
    have e2 : lastq (n :: W) q = lastq W (exq n q) := rfl
    rw [il_cons, e1, e2, ← ih]
    have e := xr_ok q hn
    simp_arith [at_run, at_retF, rtF_new, rtF_lst, rtF_tup, rtF_int, rtF_str, rtF_bl, rtF_non, rtF_frz, rtF_obj, rN_own, at_retOwnN, at_wp, wp_nx, wp_bk, wp_ct, wp_er, wp_rt, Nat.zero_le, lb_rows_along_0, e, app1_ok, hl2]
theorem along_ok (C : Addr) {d : D} {W : List Int} (i : IsW d W) (h : W4 W) (hl : W.length < 1000000) (q : Int × Int × Int × Int) : F_rows_along C [Rq q, d] = .ok (.new ((q :: scq W q).map Rq)) := by
  have e := chk_ok C i h
  have e2 := fun w => ra_loop W h q [Rq q] w (by simp only [List.length_singleton]; omega)
  cases i with
  | t => simp_arith [at_run, at_retF, rtF_new, rtF_lst, rtF_tup, rtF_int, rtF_str, rtF_bl, rtF_non, rtF_frz, rtF_obj, rN_own, at_retOwnN, at_wp, wp_nx, wp_bk, wp_ct, wp_er, wp_rt, Nat.zero_le, F_rows_along, b_rows_along, e, e2]
  | l => simp_arith [at_run, at_retF, rtF_new, rtF_lst, rtF_tup, rtF_int, rtF_str, rtF_bl, rtF_non, rtF_frz, rtF_obj, rN_own, at_retOwnN, at_wp, wp_nx, wp_bk, wp_ct, wp_er, wp_rt, Nat.zero_le, F_rows_along, b_rows_along, e, e2]
theorem at_loop : ∀ (W : List Int), W4 W → ∀ (q : Int × Int × Int × Int) (w : D), forO (gN 2) lb_rows_at_0 (il W) [.v (Rq q), .v w, .un] = .nx [.v (Rq (lastq W q)), .v w, .un]
  | [], _, q, w => rfl
  | n :: W, h, q, w => by
    have hn := h n (List.mem_cons_self ..)
    have ih := at_loop W (fun y m => h y (List.mem_cons_of_mem _ m)) (exq n q) w
    have e2 : lastq (n :: W) q = lastq W (exq n q) := rfl
    rw [il_cons, e2, ← ih]
    have e := xr_ok q hn
    simp_arith [at_run, at_retF, rtF_new, rtF_lst, rtF_tup, rtF_int, rtF_str, rtF_bl, rtF_non, rtF_frz, rtF_obj, rN_own, at_retOwnN, at_wp, wp_nx, wp_bk, wp_ct, wp_er, wp_rt, Nat.zero_le, lb_rows_at_0, e]
theorem rat_ok (C : Addr) {d : D} {W : List Int} (i : IsW d W) (h : W4 W) (q : Int × Int × Int × Int) : F_rows_at C [Rq q, d] = .ok (Rq (lastq W q)) := by
  have e := chk_ok C i h
  have e2 := fun w => at_loop W h q w
  cases i with
  | t => simp_arith [at_run, at_retF, rtF_new, rtF_lst, rtF_tup, rtF_int, rtF_str, rtF_bl, rtF_non, rtF_frz, rtF_obj, rN_own, at_retOwnN, at_wp, wp_nx, wp_bk, wp_ct, wp_er, wp_rt, Nat.zero_le, F_rows_at, b_rows_at, e, e2]
  | l => simp_arith [at_run, at_retF, rtF_new, rtF_lst, rtF_tup, rtF_int, rtF_str, rtF_bl, rtF_non, rtF_frz, rtF_obj, rN_own, at_retOwnN, at_wp, wp_nx, wp_bk, wp_ct, wp_er, wp_rt, Nat.zero_le, F_rows_at, b_rows_at, e, e2]
end DL

namespace DL
open PySem L2
local macro_rules
  | `(tactic| simp_arith [$xs,*]) => `(tactic| simp (config := {failIfUnchanged := false}) only [o0, o1, o2, o3, o4, o5, o6, o7, o8, o9, o10, o11, o12, o13, o14, o15, o16, o17, o18, o19, o20, o21, o22, o23, o24, o25, o26, o27, o28, o29, o30, o31, o32, o33, o34, o35, o36, o37, o38, o39, o40, o41, o42, o43, o44, o45, o46, o47, o48, at_seq, at_skip, at_asg, own_new, at_own, at_drop, at_ret, at_retN, rO_own, at_retOwn, at_if, at_brk, at_cnt, at_raise, ooS_some, unp1_tup, at_unp, setAll_nil, setAll_cons, par1_ok, par1_err, at_par2, frz1_own, frz1_v, at_frz, app0_own, at_app, app1_ok, pop0_own, at_pop, clr0_own, at_clr, aug0_int, aug1_int, at_aug, at_for, for_nil, gnx_some, for_cons, at_gN, at_gU,  at_e1, at_e2, at_st, vO_v, vO_own, at_var, at_c, settle_non, settle_bl, settle_int, settle_str, settle_lst, settle_tup, settle_frz, settle_new, add_int, add_str, add_tup, add_lst_lst, add_lst_new, add_lst_bor, add_new_lst, add_new_new, add_new_bor, add_bor_lst, add_bor_new, add_bor_bor, sub_int, mul_r, mul_l, fdiv_p, mod_p, pow_p, neg_int, lt_int, le_int, gt_int, ge_int, is_bl, ni_bl, is_n_non, ni_n_non, is_n_bl, ni_n_bl, is_n_int, ni_n_int, is_n_str, ni_n_str, is_n_lst, ni_n_lst, is_n_tup, ni_n_tup, is_n_new, ni_n_new, is_n_bor, ni_n_bor, items_lst, len_lst, list_lst, tuple_lst, ix_lst, tru_lst, rev_lst, slice_lst, ty_lst, sum_lst, all_lst, any_lst, items_new, len_new, list_new, tuple_new, ix_new, tru_new, rev_new, slice_new, ty_new, sum_new, all_new, any_new, items_bor, len_bor, list_bor, tuple_bor, ix_bor, tru_bor, rev_bor, slice_bor, ty_bor, sum_bor, all_bor, any_bor, len_tup, len_frz, len_str, list_tup, list_frz, tuple_tup, ix_tup, tru_tup, tru_bl, tru_int, tru_non, slice_tup, slice_frz, revT_tup, int_int, int_bl, abs_int, max_int, min_int, blO_bl, ty_non, ty_bl, ty_int, ty_str, ty_tup, at_tst, at_tst0, nB_ok, nB_err, at_notB, at_andB, at_orB, at_andE, at_orE, nE_ok, nE_err, at_notE, at_ifE, at_nilA, at_consA, tupL_ok, lstL_ok, at_tup, at_lst, callL_0, callL_1, callL_2, callL_3, callL_4, callL_5, at_call, at_chK, at_ch2, at_ch0, chR_ok, at_ch, at_isi, obl_some, isi1_at, kit2_t, kit2_f, at_kitT2, slc_ok, at_slice, at_noO, soO_int, at_someO, sq1_tup, sq1_lst, bl1_ok, bl1_err, bl1_st, at_seqI, rg1_int, at_rng1, rg2_int, rg0_ok, at_rng2, lc0_ok, at_lc, wipe_nil, wipe_cons, at_yes, kitT_int_int, kitT_int_bool, kitT_int_str, kitT_int_list, kitT_int_tuple, kitT_int_none, kitT_bool_int, kitT_bool_bool, kitT_bool_str, kitT_bool_list, kitT_bool_tuple, kitT_bool_none, kitT_tuple_int, kitT_tuple_bool, kitT_tuple_str, kitT_tuple_list, kitT_tuple_tuple, kitT_tuple_none, kitT_list_int, kitT_list_bool, kitT_list_str, kitT_list_list, kitT_list_tuple, kitT_list_none, kitT_str_int, kitT_str_bool, kitT_str_str, kitT_str_list, kitT_str_tuple, kitT_str_none, eqD_int, neD_int, eqD_bl, neD_bl, List.map_cons, List.map_nil, List.replicate, List.cons_append, List.nil_append, List.set_cons_zero, List.set_cons_succ, List.getElem?_cons_zero, List.getElem?_cons_succ, List.length_cons, List.length_nil, List.length_map, List.length_range, bind_ok, bind_err, bind_st, ofO_some, ofO_none, then_ok, then_err, then_st, Option.bind_some, Option.bind_none, Option.map_some, Option.map_none, Nat.zero_add, Nat.reduceAdd, Nat.reduceLeDiff, Nat.reduceEqDiff, ite_true, ite_false, if_true, if_false, reduceIte, Bool.not_true, Bool.not_false, Bool.false_eq_true, decide_eq_true_eq, Bool.not_eq_true, Int.reduceLT, Int.reduceLE, Int.reduceNeg, Int.reduceToNat, Int.reducePow, Int.reduceEq, Int.reduceAdd, Int.reduceSub, Int.reduceMul, Nat.reduceLT, decide_true, decide_false, $xs,*])
local macro_rules
  | `(tactic| simp_arith) => `(tactic| simp (config := {failIfUnchanged := false}) only [o0, o1, o2, o3, o4, o5, o6, o7, o8, o9, o10, o11, o12, o13, o14, o15, o16, o17, o18, o19, o20, o21, o22, o23, o24, o25, o26, o27, o28, o29, o30, o31, o32, o33, o34, o35, o36, o37, o38, o39, o40, o41, o42, o43, o44, o45, o46, o47, o48, at_seq, at_skip, at_asg, own_new, at_own, at_drop, at_ret, at_retN, rO_own, at_retOwn, at_if, at_brk, at_cnt, at_raise, ooS_some, unp1_tup, at_unp, setAll_nil, setAll_cons, par1_ok, par1_err, at_par2, frz1_own, frz1_v, at_frz, app0_own, at_app, app1_ok, pop0_own, at_pop, clr0_own, at_clr, aug0_int, aug1_int, at_aug, at_for, for_nil, gnx_some, for_cons, at_gN, at_gU,  at_e1, at_e2, at_st, vO_v, vO_own, at_var, at_c, settle_non, settle_bl, settle_int, settle_str, settle_lst, settle_tup, settle_frz, settle_new, add_int, add_str, add_tup, add_lst_lst, add_lst_new, add_lst_bor, add_new_lst, add_new_new, add_new_bor, add_bor_lst, add_bor_new, add_bor_bor, sub_int, mul_r, mul_l, fdiv_p, mod_p, pow_p, neg_int, lt_int, le_int, gt_int, ge_int, is_bl, ni_bl, is_n_non, ni_n_non, is_n_bl, ni_n_bl, is_n_int, ni_n_int, is_n_str, ni_n_str, is_n_lst, ni_n_lst, is_n_tup, ni_n_tup, is_n_new, ni_n_new, is_n_bor, ni_n_bor, items_lst, len_lst, list_lst, tuple_lst, ix_lst, tru_lst, rev_lst, slice_lst, ty_lst, sum_lst, all_lst, any_lst, items_new, len_new, list_new, tuple_new, ix_new, tru_new, rev_new, slice_new, ty_new, sum_new, all_new, any_new, items_bor, len_bor, list_bor, tuple_bor, ix_bor, tru_bor, rev_bor, slice_bor, ty_bor, sum_bor, all_bor, any_bor, len_tup, len_frz, len_str, list_tup, list_frz, tuple_tup, ix_tup, tru_tup, tru_bl, tru_int, tru_non, slice_tup, slice_frz, revT_tup, int_int, int_bl, abs_int, max_int, min_int, blO_bl, ty_non, ty_bl, ty_int, ty_str, ty_tup, at_tst, at_tst0, nB_ok, nB_err, at_notB, at_andB, at_orB, at_andE, at_orE, nE_ok, nE_err, at_notE, at_ifE, at_nilA, at_consA, tupL_ok, lstL_ok, at_tup, at_lst, callL_0, callL_1, callL_2, callL_3, callL_4, callL_5, at_call, at_chK, at_ch2, at_ch0, chR_ok, at_ch, at_isi, obl_some, isi1_at, kit2_t, kit2_f, at_kitT2, slc_ok, at_slice, at_noO, soO_int, at_someO, sq1_tup, sq1_lst, bl1_ok, bl1_err, bl1_st, at_seqI, rg1_int, at_rng1, rg2_int, rg0_ok, at_rng2, lc0_ok, at_lc, wipe_nil, wipe_cons, at_yes, kitT_int_int, kitT_int_bool, kitT_int_str, kitT_int_list, kitT_int_tuple, kitT_int_none, kitT_bool_int, kitT_bool_bool, kitT_bool_str, kitT_bool_list, kitT_bool_tuple, kitT_bool_none, kitT_tuple_int, kitT_tuple_bool, kitT_tuple_str, kitT_tuple_list, kitT_tuple_tuple, kitT_tuple_none, kitT_list_int, kitT_list_bool, kitT_list_str, kitT_list_list, kitT_list_tuple, kitT_list_none, kitT_str_int, kitT_str_bool, kitT_str_str, kitT_str_list, kitT_str_tuple, kitT_str_none, eqD_int, neD_int, eqD_bl, neD_bl, List.map_cons, List.map_nil, List.replicate, List.cons_append, List.nil_append, List.set_cons_zero, List.set_cons_succ, List.getElem?_cons_zero, List.getElem?_cons_succ, List.length_cons, List.length_nil, List.length_map, List.length_range, bind_ok, bind_err, bind_st, ofO_some, ofO_none, then_ok, then_err, then_st, Option.bind_some, Option.bind_none, Option.map_some, Option.map_none, Nat.zero_add, Nat.reduceAdd, Nat.reduceLeDiff, Nat.reduceEqDiff, ite_true, ite_false, if_true, if_false, reduceIte, Bool.not_true, Bool.not_false, Bool.false_eq_true, decide_eq_true_eq, Bool.not_eq_true, Int.reduceLT, Int.reduceLE, Int.reduceNeg, Int.reduceToNat, Int.reducePow, Int.reduceEq, Int.reduceAdd, Int.reduceSub, Int.reduceMul, Nat.reduceLT, decide_true, decide_false])
theorem next_ok {f g : Es} {ρ ρ' : Rho} {o : Out} (h1 : f ρ = .nx ρ') (h2 : g ρ' = o) : seqS f g ρ = o := by
  rw [at_seq, h1]; exact h2
/-- curvatures that a four may have -/
structure QF (B : Int) (q : Int × Int × Int × Int) : Prop where
  eq : (q.1 + q.2.1 + q.2.2.1 + q.2.2.2) * (q.1 + q.2.1 + q.2.2.1 + q.2.2.2) = 2 * (q.1 * q.1 + q.2.1 * q.2.1 + q.2.2.1 * q.2.2.1 + q.2.2.2 * q.2.2.2)
  pos : 0 < q.1 + q.2.1 + q.2.2.1 + q.2.2.2
  b1 : -B ≤ q.1 ∧ q.1 ≤ B
  b2 : -B ≤ q.2.1 ∧ q.2.1 ≤ B
  b3 : -B ≤ q.2.2.1 ∧ q.2.2.1 ≤ B
  b4 : -B ≤ q.2.2.2 ∧ q.2.2.2 ≤ B
theorem sq_nn (a : Int) : 0 ≤ a * a := by
  rcases Int.le_total 0 a with h | h
  · exact Int.mul_nonneg h h
  · exact Int.mul_nonneg_of_nonpos_of_nonpos h h
theorem sq_0 {a : Int} (h : a * a = 0) : a = 0 := by
  rcases Int.mul_eq_zero.mp h with h | h <;> exact h
theorem xpos {x b c d : Int} (hq : (x + b + c + d) * (x + b + c + d) = 2 * (x * x + b * b + c * c + d * d)) (hp : 0 < x + b + c + d) : 0 < (2 * (x + b + c + d) - 3 * x) + b + c + d := by
  have key : (x + b + c + d) * ((2 * (x + b + c + d) - 3 * x) + b + c + d) = 2 * (b * b + c * c + d * d) + 2 * ((b + c + d) * (b + c + d)) := by grind
  have h1 := sq_nn b
  have h2 := sq_nn c
  have h3 := sq_nn d
  have h4 := sq_nn (b + c + d)
  by_cases h : 0 < (2 * (x + b + c + d) - 3 * x) + b + c + d
  · exact h
  · have h5 : (x + b + c + d) * ((2 * (x + b + c + d) - 3 * x) + b + c + d) ≤ 0 := Int.mul_nonpos_of_nonneg_of_nonpos (by omega) (by omega)
    have eb : b = 0 := sq_0 (by omega)
    have ec : c = 0 := sq_0 (by omega)
    have ed : d = 0 := sq_0 (by omega)
    subst eb; subst ec; subst ed
    have ex : x * x = 0 := by grind
    have := sq_0 ex
    omega
theorem QF.exq {B : Int} {q : Int × Int × Int × Int} (h : QF B q) {n : Int} (hn : 1 ≤ n ∧ n ≤ 4) : QF (7 * B) (exq n q) := by
  obtain ⟨a, b, c, d⟩ := q
  obtain ⟨h1, h2, h3, h4, h5, h6⟩ := h
  dsimp only at h1 h2 h3 h4 h5 h6
  rcases n4 hn with rfl | rfl | rfl | rfl
  · show QF (7 * B) (2 * (a + b + c + d) - 3 * a, b, c, d)
    have := xpos (x := a) (b := b) (c := c) (d := d) (by grind) (by omega)
    refine ⟨?_, ?_, ?_, ?_, ?_, ?_⟩ <;> dsimp only <;> first | omega | grind
  · show QF (7 * B) (a, 2 * (a + b + c + d) - 3 * b, c, d)
    have := xpos (x := b) (b := a) (c := c) (d := d) (by grind) (by omega)
    refine ⟨?_, ?_, ?_, ?_, ?_, ?_⟩ <;> dsimp only <;> first | omega | grind
  · show QF (7 * B) (a, b, 2 * (a + b + c + d) - 3 * c, d)
    have := xpos (x := c) (b := a) (c := b) (d := d) (by grind) (by omega)
    refine ⟨?_, ?_, ?_, ?_, ?_, ?_⟩ <;> dsimp only <;> first | omega | grind
  · show QF (7 * B) (a, b, c, 2 * (a + b + c + d) - 3 * d)
    have := xpos (x := d) (b := a) (c := b) (d := c) (by grind) (by omega)
    refine ⟨?_, ?_, ?_, ?_, ?_, ?_⟩ <;> dsimp only <;> first | omega | grind
abbrev lq (q : Int × Int × Int × Int) : List Int := [q.1, q.2.1, q.2.2.1, q.2.2.2]
theorem QF.fits {B : Int} {q : Int × Int × Int × Int} (h : QF B q) : fits (lq q) = true := by
  obtain ⟨a, b, c, d⟩ := q
  obtain ⟨h1, h2, _⟩ := h
  dsimp only at h1 h2
  unfold DL.fits sq
  simp
  refine ⟨by omega, by grind⟩
theorem QF.bd {B : Int} {q : Int × Int × Int × Int} (h : QF B q) (hB : B < 1152921504606846976) : ∀ x ∈ lq q, -1152921504606846976 < x ∧ x < 1152921504606846976 := by
  obtain ⟨a, b, c, d⟩ := q
  obtain ⟨_, _, h3, h4, h5, h6⟩ := h
  dsimp only at h3 h4 h5 h6
  intro x hx
  simp only [lq, List.mem_cons, List.not_mem_nil, or_false] at hx
  rcases hx with rfl | rfl | rfl | rfl <;> omega
theorem IsW.settle {d : D} {ns : List Int} (i : IsW d ns) : D.settle d = some d := by cases i <;> rfl
theorem cq_ok (C : Addr) {d : D} {ns : List Int} (i : IsW d ns) (hf : fits ns = true) (hb : ∀ x ∈ ns, -1152921504606846976 < x ∧ x < 1152921504606846976) (hl : ns.length ≤ 8) : F_check_quadruple C [d] = .ok .non := by
  have e := iq_ok i hb hl
  rw [hf] at e
  have hs := i.settle
  simp_arith [at_run, at_retF, rtF_new, rtF_lst, rtF_tup, rtF_int, rtF_str, rtF_bl, rtF_non, rtF_frz, rtF_obj, rN_own, at_retOwnN, at_wp, wp_nx, wp_bk, wp_ct, wp_er, wp_rt, Nat.zero_le, F_check_quadruple, b_check_quadruple, hs, e]
theorem cat_ok (C C2 : Addr) {e d : D} {W : List Int} {B : Int} {q : Int × Int × Int × Int} (j : IsW e (lq q)) (i : IsW d W) (h : W4 W) (hq : QF B q) (hB : B < 1152921504606846976) : F_curvatures_at C C2 [e, d] = .ok (Tq (lastq W q)) := by
  have e1 := cq_ok C j hq.fits (hq.bd hB) (by simp)
  have e2 := rat_ok C2 i h q
  have e3 := ac_ok (lastq W q)
  have hs := j.settle
  have hs2 := i.settle
  have e4 : F_as_rows [e] = .ok (Rq q) := by cases j <;> first | exact as_ok q | exact as_okl q
  simp_arith [at_run, at_retF, rtF_new, rtF_lst, rtF_tup, rtF_int, rtF_str, rtF_bl, rtF_non, rtF_frz, rtF_obj, rN_own, at_retOwnN, at_wp, wp_nx, wp_bk, wp_ct, wp_er, wp_rt, Nat.zero_le, F_curvatures_at, b_curvatures_at, e1, e2, e3, hs, hs2, e4]
theorem cal_ok (C C2 : Addr) {e d : D} {W : List Int} {B : Int} {q : Int × Int × Int × Int} (j : IsW e (lq q)) (i : IsW d W) (h : W4 W) (hl : W.length < 1000000) (hq : QF B q) (hB : B < 1152921504606846976) :
    F_curvatures_along C C2 [e, d] = .ok (.new ((q :: scq W q).map Tq)) := by
  have e1 := cq_ok C j hq.fits (hq.bd hB) (by simp)
  have e2 := along_ok C2 i h hl q
  have hs := j.settle
  have hs2 := i.settle
  have e4 : F_as_rows [e] = .ok (Rq q) := by cases j <;> first | exact as_ok q | exact as_okl q
  have hn : ∀ (qs : List (Int × Int × Int × Int)) (ρ : Rho), 2 < ρ.length → lcO (gN 2) yesB le_curvatures_along_0 ρ (qs.map Rq) = .ok (qs.map Tq) := fun qs ρ hρ => by
    induction qs with
    | nil => rfl
    | cons x qs ih =>
      have e5 := ac_ok x
      have e6 : (ρ.set 2 (.v (Rq x)))[2]? = some (.v (Rq x)) := by simp [hρ]
      rw [List.map_cons, lc_cons, ih]
      simp_arith [at_run, at_retF, rtF_new, rtF_lst, rtF_tup, rtF_int, rtF_str, rtF_bl, rtF_non, rtF_frz, rtF_obj, rN_own, at_retOwnN, at_wp, wp_nx, wp_bk, wp_ct, wp_er, wp_rt, Nat.zero_le, lcS_some, sure_ok, le_curvatures_along_0, e6, e5]
  have hlen : ∀ (W : List Int) (q : Int × Int × Int × Int), (scq W q).length = W.length := fun W => by
    induction W with
    | nil => exact fun _ => rfl
    | cons n W ih => exact fun q => by rw [scq, List.length_cons, ih, List.length_cons]
  have h9 : ((q :: scq W q).map Rq).length ≤ 16777216 := by simp [hlen]; omega
  have hn2 := fun s t => hn (q :: scq W q) [s, t, .un] (by simp)
  rw [List.map_cons] at h9 hn2
  simp_arith [at_run, at_retF, rtF_new, rtF_lst, rtF_tup, rtF_int, rtF_str, rtF_bl, rtF_non, rtF_frz, rtF_obj, rN_own, at_retOwnN, at_wp, wp_nx, wp_bk, wp_ct, wp_er, wp_rt, Nat.zero_le, F_curvatures_along, b_curvatures_along, e1, e2, hs, hs2, e4, hn2, lc0_ok h9]
/-! the laws' own curvatures -/
noncomputable def lq_rest : Es := (seqS (asgS 5 (e2 ixD (lstE (consA (cE (.int 1)) (consA (cE (.int 1)) (consA (cE (.int 1)) (consA (cE (.int 2)) (consA (cE (.int 3)) nilA)))))) (e2 modD (e1 intD (e2 ixD (varE 0) (e2 addD (varE 1) (cE (.int 1))))) (cE (.int 5)))))
  (seqS (asgS 6 (e2 modD (e1 intD (e2 ixD (varE 0) (e2 addD (varE 1) (cE (.int 2))))) (cE (.int 4))))
  (seqS (asgS 7 (e1 tupleD (lcE (seqI (e2 addD (sliceE (varE 4) (someO (varE 6)) noO) (sliceE (varE 4) noO (someO (varE 6))))) [3] (gN 3) yesB le__law_quadruple_0)))
  (seqS (ifS (tst0 (e2 eqD (e2 modD (e1 intD (e2 fdivD (e2 ixD (varE 0) (e2 addD (varE 1) (cE (.int 2)))) (cE (.int 4)))) (cE (.int 2))) (cE (.int 1))))
  (asgS 7 (e1 revT (varE 7)))
  skipS)
  (seqS (wpS [8] (forS (rng1I (e2 modD (e1 intD (e2 ixD (varE 0) (e2 addD (varE 1) (cE (.int 3))))) (cE (.int 5)))) (gN 8)
  lb__law_quadruple_0))
  (retS (varE 7)))))))
noncomputable def lq_rest2 : Es := (seqS (ifS (tst0 (e2 eqD (e2 modD (e1 intD (e2 fdivD (e2 ixD (varE 0) (e2 addD (varE 1) (cE (.int 2)))) (cE (.int 4)))) (cE (.int 2))) (cE (.int 1))))
  (asgS 7 (e1 revT (varE 7)))
  skipS)
  (seqS (wpS [8] (forS (rng1I (e2 modD (e1 intD (e2 ixD (varE 0) (e2 addD (varE 1) (cE (.int 3))))) (cE (.int 5)))) (gN 8)
  lb__law_quadruple_0))
  (retS (varE 7))))
theorem lq_loop (L : List Int) (hL : ∀ x ∈ L, 0 ≤ x ∧ x < 1009) (h8 : 12 ≤ L.length) (s2 s3 s4 s5 s6 : Slot) : ∀ (ks : List Int), (∀ k ∈ ks, 0 ≤ k ∧ k < 5) → ∀ (B : Int) (q : Int × Int × Int × Int), QF B q →
    ∃ q', forO (gN 8) lb__law_quadruple_0 (il ks) [.v (.lst (il L)), .v (.int 0), s2, s3, s4, s5, s6, .v (Tq q), .un] = .nx [.v (.lst (il L)), .v (.int 0), s2, s3, s4, s5, s6, .v (Tq q'), .un] ∧ QF (7 ^ ks.length * B) q'
  | [], _, B, q, h => ⟨q, by simp [forO], by simpa using h⟩
  | k :: ks, hk, B, q, h => by
    have hk0 := hk k (List.mem_cons_self ..)
    have hm := Int.emod_nonneg (L.getD (4 + k).toNat 0) (show (4 : Int) ≠ 0 by decide)
    have hm2 := Int.emod_lt_of_pos (L.getD (4 + k).toNat 0) (show (0 : Int) < 4 by decide)
    have hn : 1 ≤ 1 + L.getD (4 + k).toNat 0 % 4 ∧ 1 + L.getD (4 + k).toNat 0 % 4 ≤ 4 := by omega
    obtain ⟨q', h1, h2⟩ := lq_loop L hL h8 s2 s3 s4 s5 s6 ks (fun y m => hk y (List.mem_cons_of_mem _ m)) (7 * B) _ (h.exq hn)
    refine ⟨q', ?_, ?_⟩
    · rw [il_cons, ← h1]
      have e := atI_ints (l := L) (i := 4 + k) (by omega) (by omega)
      have e2 := lx_ok q hn
      simp_arith [at_run, at_retF, rtF_new, rtF_lst, rtF_tup, rtF_int, rtF_str, rtF_bl, rtF_non, rtF_frz, rtF_obj, rN_own, at_retOwnN, at_wp, wp_nx, wp_bk, wp_ct, wp_er, wp_rt, Nat.zero_le, lb__law_quadruple_0, e, e2]
    · rw [List.length_cons, Int.pow_succ, Int.mul_assoc]; exact h2
theorem lq2_ok (L : List Int) (hL : ∀ x ∈ L, 0 ≤ x ∧ x < 1009) (h8 : 12 ≤ L.length) (s2 s3 s4 s5 s6 : Slot) {B : Int} {q : Int × Int × Int × Int} (h : QF B q) (hB : 0 ≤ B) :
    ∃ q', lq_rest2 [.v (.lst (il L)), .v (.int 0), s2, s3, s4, s5, s6, .v (Tq q), .un] = .rt (Tq q') ∧ QF (2401 * B) q' := by
  have hm := Int.emod_nonneg (L.getD 3 0) (show (5 : Int) ≠ 0 by decide)
  have hm2 := Int.emod_lt_of_pos (L.getD 3 0) (show (0 : Int) < 5 by decide)
  have a2 := atI_ints (l := L) (i := 2) (by omega) (by omega)
  have a3 := atI_ints (l := L) (i := 3) (by omega) (by omega)
  have t2 : (2 : Int).toNat = 2 := rfl
  have t3 : (3 : Int).toNat = 3 := rfl
  rw [t2] at a2
  rw [t3] at a3
  have hr1 : -4611686018427387904 ≤ L.getD 3 0 % 5 := by omega
  have hr2 : L.getD 3 0 % 5 < 4611686018427387904 := by omega
  have fin : ∀ q1, QF B q1 → ∃ q', forO (gN 8) lb__law_quadruple_0 (il ((List.range (L.getD 3 0 % 5).toNat).map fun i : Nat => 0 + (i : Int))) [.v (.lst (il L)), .v (.int 0), s2, s3, s4, s5, s6, .v (Tq q1), .un] = .nx [.v (.lst (il L)), .v (.int 0), s2, s3, s4, s5, s6, .v (Tq q'), .un] ∧ QF (2401 * B) q' := fun q1 h1 => by
    obtain ⟨q', g1, g2⟩ := lq_loop L hL h8 s2 s3 s4 s5 s6 ((List.range (L.getD 3 0 % 5).toNat).map fun i : Nat => 0 + (i : Int)) (fun k hk => by
      obtain ⟨i, hi, rfl⟩ := List.mem_map.mp hk
      rw [List.mem_range] at hi
      omega) B q1 h1
    refine ⟨q', g1, ?_⟩
    have hp : (7 : Int) ^ ((List.range (L.getD 3 0 % 5).toNat).map fun i : Nat => 0 + (i : Int)).length ≤ 2401 := by
      rw [List.length_map, List.length_range]
      have : (L.getD 3 0 % 5).toNat = 0 ∨ (L.getD 3 0 % 5).toNat = 1 ∨ (L.getD 3 0 % 5).toNat = 2 ∨ (L.getD 3 0 % 5).toNat = 3 ∨ (L.getD 3 0 % 5).toNat = 4 := by omega
      rcases this with e | e | e | e | e <;> rw [e] <;> decide
    have hp2 := Int.mul_le_mul_of_nonneg_right hp hB
    obtain ⟨c1, c2, c3, c4, c5, c6⟩ := g2
    exact ⟨c1, c2, by omega, by omega, by omega, by omega⟩
  by_cases hv : L.getD 2 0 / 4 % 2 = 1
  · obtain ⟨a, b, c, d⟩ := q
    obtain ⟨q', g1, g2⟩ := fin (d, c, b, a) (by
      obtain ⟨c1, c2, c3, c4, c5, c6⟩ := h
      dsimp only at c1 c2 c3 c4 c5 c6
      refine ⟨?_, ?_, ?_, ?_, ?_, ?_⟩ <;> dsimp only <;> first | omega | grind)
    refine ⟨q', ?_, g2⟩
    simp_arith [at_run, at_retF, rtF_new, rtF_lst, rtF_tup, rtF_int, rtF_str, rtF_bl, rtF_non, rtF_frz, rtF_obj, rN_own, at_retOwnN, at_wp, wp_nx, wp_bk, wp_ct, wp_er, wp_rt, Nat.zero_le, lq_rest2, a2, a3, hv, beq_self_eq_true, hr1, hr2, rngI_il, g1, List.reverse_cons, List.reverse_nil]
  · have hv2 : (L.getD 2 0 / 4 % 2 == 1) = false := by rw [beq_eq_false_iff_ne]; exact hv
    obtain ⟨q', g1, g2⟩ := fin q h
    refine ⟨q', ?_, g2⟩
    simp_arith [at_run, at_retF, rtF_new, rtF_lst, rtF_tup, rtF_int, rtF_str, rtF_bl, rtF_non, rtF_frz, rtF_obj, rN_own, at_retOwnN, at_wp, wp_nx, wp_bk, wp_ct, wp_er, wp_rt, Nat.zero_le, lq_rest2, a2, a3, hv2, hr1, hr2, rngI_il, g1]
theorem QF.turn {B : Int} {a b c d : Int} (h : QF B (a, b, c, d)) : QF B (b, c, d, a) := by
  obtain ⟨c1, c2, c3, c4, c5, c6⟩ := h
  dsimp only at c1 c2 c3 c4 c5 c6
  refine ⟨?_, ?_, ?_, ?_, ?_, ?_⟩ <;> dsimp only <;> first | omega | grind
theorem QF.mul {B f : Int} {a b c d : Int} (h : QF B (a, b, c, d)) (h1 : 1 ≤ f) (h3 : f ≤ 3) : QF (3 * B) (f * a, f * b, f * c, f * d) := by
  obtain ⟨c1, c2, c3, c4, c5, c6⟩ := h
  dsimp only at c1 c2 c3 c4 c5 c6
  have : f = 1 ∨ f = 2 ∨ f = 3 := by omega
  rcases this with rfl | rfl | rfl <;> refine ⟨?_, ?_, ?_, ?_, ?_, ?_⟩ <;> dsimp only <;> first | omega | grind
theorem lq1_gen (P P' : Int × Int × Int × Int → Prop) (L : List Int) (hL : ∀ x ∈ L, 0 ≤ x ∧ x < 1009) (h8 : 12 ≤ L.length) (s2 s3 : Slot) {q : Int × Int × Int × Int} (h : P q) (turn : ∀ a b c d, P (a, b, c, d) → P (b, c, d, a))
    (fin : ∀ (f a b c d : Int) (s4 s5 s6 : Slot), 1 ≤ f → f ≤ 3 → P (a, b, c, d) → ∃ q', lq_rest2 [.v (.lst (il L)), .v (.int 0), s2, s3, s4, s5, s6, .v (Tq (f * a, f * b, f * c, f * d)), .un] = .rt (Tq q') ∧ P' q') :
    ∃ q', lq_rest [.v (.lst (il L)), .v (.int 0), s2, s3, .v (Tq q), .un, .un, .un, .un] = .rt (Tq q') ∧ P' q' := by
  have hm := Int.emod_nonneg (L.getD 1 0) (show (5 : Int) ≠ 0 by decide)
  have hm2 := Int.emod_lt_of_pos (L.getD 1 0) (show (0 : Int) < 5 by decide)
  have hk := Int.emod_nonneg (L.getD 2 0) (show (4 : Int) ≠ 0 by decide)
  have hk2 := Int.emod_lt_of_pos (L.getD 2 0) (show (0 : Int) < 4 by decide)
  have a1 := atI_ints (l := L) (i := 1) (by omega) (by omega)
  have a2 := atI_ints (l := L) (i := 2) (by omega) (by omega)
  have t1 : (1 : Int).toNat = 1 := rfl
  have t2 : (2 : Int).toNat = 2 := rfl
  rw [t1] at a1
  rw [t2] at a2
  obtain ⟨f, hf, f1, f3⟩ : ∃ f : Int, L2.atI [D.int 1, D.int 1, D.int 1, D.int 2, D.int 3] (L.getD 1 0 % 5) = some (.int f) ∧ 1 ≤ f ∧ f ≤ 3 := by
    have : L.getD 1 0 % 5 = 0 ∨ L.getD 1 0 % 5 = 1 ∨ L.getD 1 0 % 5 = 2 ∨ L.getD 1 0 % 5 = 3 ∨ L.getD 1 0 % 5 = 4 := by omega
    rcases this with e | e | e | e | e <;> rw [e]
    · exact ⟨1, rfl, by decide, by decide⟩
    · exact ⟨1, rfl, by decide, by decide⟩
    · exact ⟨1, rfl, by decide, by decide⟩
    · exact ⟨2, rfl, by decide, by decide⟩
    · exact ⟨3, rfl, by decide, by decide⟩
  have f2 : -18446744073709551616 < f := by omega
  have f4 : f < 18446744073709551616 := by omega
  have h0 : L.getD 2 0 % 4 = 0 ∨ L.getD 2 0 % 4 = 1 ∨ L.getD 2 0 % 4 = 2 ∨ L.getD 2 0 % 4 = 3 := by omega
  obtain ⟨a, b, c, d⟩ := q
  rcases h0 with e | e | e | e
  · obtain ⟨q', g1, g2⟩ := fin f _ _ _ _ (.v (Tq (a, b, c, d))) (.v (.int f)) (.v (.int 0)) f1 f3 h
    refine ⟨q', ?_, g2⟩
    refine next_ok (ρ' := [.v (.lst (il L)), .v (.int 0), s2, s3, .v (Tq (a, b, c, d)), .v (.int f), .un, .un, .un]) (by simp_arith [at_run, at_retF, rtF_new, rtF_lst, rtF_tup, rtF_int, rtF_str, rtF_bl, rtF_non, rtF_frz, rtF_obj, rN_own, at_retOwnN, at_wp, wp_nx, wp_bk, wp_ct, wp_er, wp_rt, Nat.zero_le, a1, hf]) (next_ok (ρ' := [.v (.lst (il L)), .v (.int 0), s2, s3, .v (Tq (a, b, c, d)), .v (.int f), .v (.int 0), .un, .un]) (by simp_arith [at_run, at_retF, rtF_new, rtF_lst, rtF_tup, rtF_int, rtF_str, rtF_bl, rtF_non, rtF_frz, rtF_obj, rN_own, at_retOwnN, at_wp, wp_nx, wp_bk, wp_ct, wp_er, wp_rt, Nat.zero_le, a2, e]) (next_ok ?_ g1))
    simp_arith [at_run, at_retF, rtF_new, rtF_lst, rtF_tup, rtF_int, rtF_str, rtF_bl, rtF_non, rtF_frz, rtF_obj, rN_own, at_retOwnN, at_wp, wp_nx, wp_bk, wp_ct, wp_er, wp_rt, Nat.zero_le, cut4_r0, cut4_l0, add_tup, lc_cons, lc_nil, lcS_some, sure_ok, le__law_quadruple_0, mul_l, f2, f4]
  · obtain ⟨q', g1, g2⟩ := fin f _ _ _ _ (.v (Tq (a, b, c, d))) (.v (.int f)) (.v (.int 1)) f1 f3 (turn _ _ _ _ h)
    refine ⟨q', ?_, g2⟩
    refine next_ok (ρ' := [.v (.lst (il L)), .v (.int 0), s2, s3, .v (Tq (a, b, c, d)), .v (.int f), .un, .un, .un]) (by simp_arith [at_run, at_retF, rtF_new, rtF_lst, rtF_tup, rtF_int, rtF_str, rtF_bl, rtF_non, rtF_frz, rtF_obj, rN_own, at_retOwnN, at_wp, wp_nx, wp_bk, wp_ct, wp_er, wp_rt, Nat.zero_le, a1, hf]) (next_ok (ρ' := [.v (.lst (il L)), .v (.int 0), s2, s3, .v (Tq (a, b, c, d)), .v (.int f), .v (.int 1), .un, .un]) (by simp_arith [at_run, at_retF, rtF_new, rtF_lst, rtF_tup, rtF_int, rtF_str, rtF_bl, rtF_non, rtF_frz, rtF_obj, rN_own, at_retOwnN, at_wp, wp_nx, wp_bk, wp_ct, wp_er, wp_rt, Nat.zero_le, a2, e]) (next_ok ?_ g1))
    simp_arith [at_run, at_retF, rtF_new, rtF_lst, rtF_tup, rtF_int, rtF_str, rtF_bl, rtF_non, rtF_frz, rtF_obj, rN_own, at_retOwnN, at_wp, wp_nx, wp_bk, wp_ct, wp_er, wp_rt, Nat.zero_le, cut4_r1, cut4_l1, add_tup, lc_cons, lc_nil, lcS_some, sure_ok, le__law_quadruple_0, mul_l, f2, f4]
  · obtain ⟨q', g1, g2⟩ := fin f _ _ _ _ (.v (Tq (a, b, c, d))) (.v (.int f)) (.v (.int 2)) f1 f3 (turn _ _ _ _ (turn _ _ _ _ h))
    refine ⟨q', ?_, g2⟩
    refine next_ok (ρ' := [.v (.lst (il L)), .v (.int 0), s2, s3, .v (Tq (a, b, c, d)), .v (.int f), .un, .un, .un]) (by simp_arith [at_run, at_retF, rtF_new, rtF_lst, rtF_tup, rtF_int, rtF_str, rtF_bl, rtF_non, rtF_frz, rtF_obj, rN_own, at_retOwnN, at_wp, wp_nx, wp_bk, wp_ct, wp_er, wp_rt, Nat.zero_le, a1, hf]) (next_ok (ρ' := [.v (.lst (il L)), .v (.int 0), s2, s3, .v (Tq (a, b, c, d)), .v (.int f), .v (.int 2), .un, .un]) (by simp_arith [at_run, at_retF, rtF_new, rtF_lst, rtF_tup, rtF_int, rtF_str, rtF_bl, rtF_non, rtF_frz, rtF_obj, rN_own, at_retOwnN, at_wp, wp_nx, wp_bk, wp_ct, wp_er, wp_rt, Nat.zero_le, a2, e]) (next_ok ?_ g1))
    simp_arith [at_run, at_retF, rtF_new, rtF_lst, rtF_tup, rtF_int, rtF_str, rtF_bl, rtF_non, rtF_frz, rtF_obj, rN_own, at_retOwnN, at_wp, wp_nx, wp_bk, wp_ct, wp_er, wp_rt, Nat.zero_le, cut4_r2, cut4_l2, add_tup, lc_cons, lc_nil, lcS_some, sure_ok, le__law_quadruple_0, mul_l, f2, f4]
  · obtain ⟨q', g1, g2⟩ := fin f _ _ _ _ (.v (Tq (a, b, c, d))) (.v (.int f)) (.v (.int 3)) f1 f3 (turn _ _ _ _ (turn _ _ _ _ (turn _ _ _ _ h)))
    refine ⟨q', ?_, g2⟩
    refine next_ok (ρ' := [.v (.lst (il L)), .v (.int 0), s2, s3, .v (Tq (a, b, c, d)), .v (.int f), .un, .un, .un]) (by simp_arith [at_run, at_retF, rtF_new, rtF_lst, rtF_tup, rtF_int, rtF_str, rtF_bl, rtF_non, rtF_frz, rtF_obj, rN_own, at_retOwnN, at_wp, wp_nx, wp_bk, wp_ct, wp_er, wp_rt, Nat.zero_le, a1, hf]) (next_ok (ρ' := [.v (.lst (il L)), .v (.int 0), s2, s3, .v (Tq (a, b, c, d)), .v (.int f), .v (.int 3), .un, .un]) (by simp_arith [at_run, at_retF, rtF_new, rtF_lst, rtF_tup, rtF_int, rtF_str, rtF_bl, rtF_non, rtF_frz, rtF_obj, rN_own, at_retOwnN, at_wp, wp_nx, wp_bk, wp_ct, wp_er, wp_rt, Nat.zero_le, a2, e]) (next_ok ?_ g1))
    simp_arith [at_run, at_retF, rtF_new, rtF_lst, rtF_tup, rtF_int, rtF_str, rtF_bl, rtF_non, rtF_frz, rtF_obj, rN_own, at_retOwnN, at_wp, wp_nx, wp_bk, wp_ct, wp_er, wp_rt, Nat.zero_le, cut4_r3, cut4_l3, add_tup, lc_cons, lc_nil, lcS_some, sure_ok, le__law_quadruple_0, mul_l, f2, f4]
theorem lqd_gen (P P' : Int × Int × Int × Int → Prop) (L : List Int) (hL : ∀ x ∈ L, 0 ≤ x ∧ x < 1009) (h8 : 12 ≤ L.length) (turn : ∀ a b c d, P (a, b, c, d) → P (b, c, d, a))
    (fin : ∀ (s2 s3 : Slot) (f a b c d : Int) (s4 s5 s6 : Slot), 1 ≤ f → f ≤ 3 → P (a, b, c, d) → ∃ q', lq_rest2 [.v (.lst (il L)), .v (.int 0), s2, s3, s4, s5, s6, .v (Tq (f * a, f * b, f * c, f * d)), .un] = .rt (Tq q') ∧ P' q')
    (r0 : P (-1, 2, 2, 3)) (r1 : P (-2, 3, 6, 7)) (r2 : P (-3, 4, 12, 13)) (r3 : P (-3, 5, 8, 8)) (r4 : P (-4, 8, 9, 9)) (r5 : P (-6, 11, 14, 15)) (r6 : P (0, 0, 1, 1)) (rk : ∀ k : Int, 2 ≤ k → k ≤ 10 → P (-k, k + 1, k * (k + 1), k * (k + 1) + 1)) :
    ∃ q, F__law_quadruple [.lst (il L), .int 0] = .ok (Tq q) ∧ P' q := by
  have hm := Int.emod_nonneg (L.getD 0 0) (show (9 : Int) ≠ 0 by decide)
  have hm2 := Int.emod_lt_of_pos (L.getD 0 0) (show (0 : Int) < 9 by decide)
  have hk := Int.emod_nonneg (L.getD 0 0 / 9) (show (9 : Int) ≠ 0 by decide)
  have hk2 := Int.emod_lt_of_pos (L.getD 0 0 / 9) (show (0 : Int) < 9 by decide)
  have a0 := atI_ints (l := L) (i := 0) (by omega) (by omega)
  have t0 : (0 : Int).toNat = 0 := rfl
  rw [t0] at a0
  generalize hR : ([D.tup [.int (-1), .int 2, .int 2, .int 3], .tup [.int (-2), .int 3, .int 6, .int 7], .tup [.int (-3), .int 4, .int 12, .int 13], .tup [.int (-3), .int 5, .int 8, .int 8], .tup [.int (-4), .int 8, .int 9, .int 9], .tup [.int (-6), .int 11, .int 14, .int 15], .tup [.int 0, .int 0, .int 1, .int 1]] : List D) = R
  have hR7 : R.length = 7 := by rw [← hR]; rfl
  obtain ⟨r, hr, hq⟩ : ∃ r, L2.atI R (if 6 < L.getD 0 0 % 9 then 6 else L.getD 0 0 % 9) = some (Tq r) ∧ P r := by
    have : L.getD 0 0 % 9 = 0 ∨ L.getD 0 0 % 9 = 1 ∨ L.getD 0 0 % 9 = 2 ∨ L.getD 0 0 % 9 = 3 ∨ L.getD 0 0 % 9 = 4 ∨ L.getD 0 0 % 9 = 5 ∨ 6 ≤ L.getD 0 0 % 9 := by omega
    rw [← hR]
    rcases this with e | e | e | e | e | e | e
    · rw [e]; exact ⟨(-1, 2, 2, 3), rfl, r0⟩
    · rw [e]; exact ⟨(-2, 3, 6, 7), rfl, r1⟩
    · rw [e]; exact ⟨(-3, 4, 12, 13), rfl, r2⟩
    · rw [e]; exact ⟨(-3, 5, 8, 8), rfl, r3⟩
    · rw [e]; exact ⟨(-4, 8, 9, 9), rfl, r4⟩
    · rw [e]; exact ⟨(-6, 11, 14, 15), rfl, r5⟩
    · have : (if 6 < L.getD 0 0 % 9 then 6 else L.getD 0 0 % 9) = 6 := by split <;> omega
      rw [this]; exact ⟨(0, 0, 1, 1), rfl, r6⟩
  by_cases h6 : 6 < L.getD 0 0 % 9
  · generalize hkk : 2 + L.getD 0 0 / 9 % 9 = k
    have k2 : 2 ≤ k ∧ k ≤ 10 := by omega
    have k1 : -18446744073709551616 < k := by omega
    have k3 : k < 18446744073709551616 := by omega
    obtain ⟨q', g1, g2⟩ := lq1_gen P P' L hL h8 (.v (.lst R)) (.v (.int (L.getD 0 0 % 9))) (q := (-k, k + 1, k * (k + 1), k * (k + 1) + 1)) (rk k k2.1 k2.2) turn (fin _ _)
    have g3 : F__law_quadruple [.lst (il L), .int 0] = .ok (Tq q') := by
      show (b__law_quadruple _).run = _
      have : b__law_quadruple [.v (.lst (il L)), .v (.int 0), .un, .un, .un, .un, .un, .un, .un] = .rt (Tq q') := by
        refine next_ok (ρ' := [.v (.lst (il L)), .v (.int 0), .v (.lst R), .un, .un, .un, .un, .un, .un]) (by rw [← hR]; simp_arith [at_run, at_retF, rtF_new, rtF_lst, rtF_tup, rtF_int, rtF_str, rtF_bl, rtF_non, rtF_frz, rtF_obj, rN_own, at_retOwnN, at_wp, wp_nx, wp_bk, wp_ct, wp_er, wp_rt, Nat.zero_le]) ?_
        refine next_ok (ρ' := [.v (.lst (il L)), .v (.int 0), .v (.lst R), .v (.int (L.getD 0 0 % 9)), .un, .un, .un, .un, .un]) (by simp_arith [at_run, at_retF, rtF_new, rtF_lst, rtF_tup, rtF_int, rtF_str, rtF_bl, rtF_non, rtF_frz, rtF_obj, rN_own, at_retOwnN, at_wp, wp_nx, wp_bk, wp_ct, wp_er, wp_rt, Nat.zero_le, a0]) ?_
        refine next_ok (ρ' := [.v (.lst (il L)), .v (.int 0), .v (.lst R), .v (.int (L.getD 0 0 % 9)), .v (Tq r), .un, .un, .un, .un]) (by
          have e6 : (if 6 < L.getD 0 0 % 9 then (6 : Int) else L.getD 0 0 % 9) = 6 := if_pos h6
          rw [e6] at hr
          simp_arith [at_run, at_retF, rtF_new, rtF_lst, rtF_tup, rtF_int, rtF_str, rtF_bl, rtF_non, rtF_frz, rtF_obj, rN_own, at_retOwnN, at_wp, wp_nx, wp_bk, wp_ct, wp_er, wp_rt, Nat.zero_le, h6, hr]) ?_
        refine next_ok ?_ g1
        have e0 : (if True then (6 : Int) else L.getD 0 0 % 9) = 6 := if_pos trivial
        simp_arith [at_run, at_retF, rtF_new, rtF_lst, rtF_tup, rtF_int, rtF_str, rtF_bl, rtF_non, rtF_frz, rtF_obj, rN_own, at_retOwnN, at_wp, wp_nx, wp_bk, wp_ct, wp_er, wp_rt, Nat.zero_le, a0, h6, hkk, mul_l, k1, k3]
      exact congrArg Out.run this
    exact ⟨q', g3, g2⟩
  · obtain ⟨q', g1, g2⟩ := lq1_gen P P' L hL h8 (.v (.lst R)) (.v (.int (L.getD 0 0 % 9))) (q := r) hq turn (fin _ _)
    have g3 : F__law_quadruple [.lst (il L), .int 0] = .ok (Tq q') := by
      show (b__law_quadruple _).run = _
      have : b__law_quadruple [.v (.lst (il L)), .v (.int 0), .un, .un, .un, .un, .un, .un, .un] = .rt (Tq q') := by
        refine next_ok (ρ' := [.v (.lst (il L)), .v (.int 0), .v (.lst R), .un, .un, .un, .un, .un, .un]) (by rw [← hR]; simp_arith [at_run, at_retF, rtF_new, rtF_lst, rtF_tup, rtF_int, rtF_str, rtF_bl, rtF_non, rtF_frz, rtF_obj, rN_own, at_retOwnN, at_wp, wp_nx, wp_bk, wp_ct, wp_er, wp_rt, Nat.zero_le]) ?_
        refine next_ok (ρ' := [.v (.lst (il L)), .v (.int 0), .v (.lst R), .v (.int (L.getD 0 0 % 9)), .un, .un, .un, .un, .un]) (by simp_arith [at_run, at_retF, rtF_new, rtF_lst, rtF_tup, rtF_int, rtF_str, rtF_bl, rtF_non, rtF_frz, rtF_obj, rN_own, at_retOwnN, at_wp, wp_nx, wp_bk, wp_ct, wp_er, wp_rt, Nat.zero_le, a0]) ?_
        refine next_ok (ρ' := [.v (.lst (il L)), .v (.int 0), .v (.lst R), .v (.int (L.getD 0 0 % 9)), .v (Tq r), .un, .un, .un, .un]) (by
          rw [if_neg h6] at hr
          simp_arith [at_run, at_retF, rtF_new, rtF_lst, rtF_tup, rtF_int, rtF_str, rtF_bl, rtF_non, rtF_frz, rtF_obj, rN_own, at_retOwnN, at_wp, wp_nx, wp_bk, wp_ct, wp_er, wp_rt, Nat.zero_le, h6, hr]) ?_
        refine next_ok ?_ g1
        simp_arith [at_run, at_retF, rtF_new, rtF_lst, rtF_tup, rtF_int, rtF_str, rtF_bl, rtF_non, rtF_frz, rtF_obj, rN_own, at_retOwnN, at_wp, wp_nx, wp_bk, wp_ct, wp_er, wp_rt, Nat.zero_le, a0, h6]
      exact congrArg Out.run this
    exact ⟨q', g3, g2⟩
theorem QF.le {B C : Int} {q : Int × Int × Int × Int} (h : QF B q) (hBC : B ≤ C) : QF C q := ⟨h.eq, h.pos, by have := h.b1; omega, by have := h.b2; omega, by have := h.b3; omega, by have := h.b4; omega⟩
theorem QF_k {k : Int} (h1 : 2 ≤ k) (h2 : k ≤ 10) : QF 111 (-k, k + 1, k * (k + 1), k * (k + 1) + 1) := by
  have : k = 2 ∨ k = 3 ∨ k = 4 ∨ k = 5 ∨ k = 6 ∨ k = 7 ∨ k = 8 ∨ k = 9 ∨ k = 10 := by omega
  rcases this with rfl | rfl | rfl | rfl | rfl | rfl | rfl | rfl | rfl <;> constructor <;> decide
theorem lqd_ok (L : List Int) (hL : ∀ x ∈ L, 0 ≤ x ∧ x < 1009) (h8 : 12 ≤ L.length) : ∃ q, F__law_quadruple [.lst (il L), .int 0] = .ok (Tq q) ∧ QF 1000000 q :=
  lqd_gen (QF 111) (QF 1000000) L hL h8 (fun _ _ _ _ h => h.turn) (fun s2 s3 f a b c d s4 s5 s6 f1 f3 h => by
    obtain ⟨q', g1, g2⟩ := lq2_ok L hL h8 s2 s3 s4 s5 s6 (h.mul f1 f3) (by decide)
    exact ⟨q', g1, g2.le (by decide)⟩)
    (by constructor <;> decide) (by constructor <;> decide) (by constructor <;> decide) (by constructor <;> decide) (by constructor <;> decide) (by constructor <;> decide) (by constructor <;> decide) (fun k => QF_k)
end DL

namespace DL
open PySem L2
/-- data that can be shown: numbers not too great, not too deep, not too long -/
structure Fn (B k : Nat) (d : D) : Prop where
  num : d.num = true
  dep : d.py.depth ≤ k
  shl : d.shl ≤ B
theorem Fn.all {B k : Nat} : ∀ {ds : List D}, (∀ d ∈ ds, Fn B k d) → D.numAll ds = true ∧ PyData.depthAll (D.pyAll ds) ≤ k ∧ D.shlAll ds ≤ (B + 2) * ds.length
  | [], _ => ⟨by simp [D.numAll], by simp [D.pyAll, PyData.depthAll], by simp [D.shlAll]⟩
  | d :: ds, h => by
    obtain ⟨h1, h2, h3⟩ := h d (List.mem_cons_self ..)
    obtain ⟨g1, g2, g3⟩ := Fn.all fun e m => h e (List.mem_cons_of_mem _ m)
    refine ⟨by rw [D.numAll, h1, g1]; rfl, ?_, ?_⟩
    · rw [D.pyAll, PyData.depthAll]
      omega
    · rw [D.shlAll, List.length_cons, Nat.mul_succ]
      omega
theorem Fn.int {i : Int} {b : Nat} (h : i.natAbs.log2 ≤ b) (hb : b < 1920) : Fn (b + 2) 0 (.int i) :=
  ⟨by rw [D.num]; exact decide_eq_true (by omega), by simp [D.py, PyData.depth], by rw [D.shl]; omega⟩
theorem Fn.int' {i : Int} {b : Nat} (h : i.natAbs < 2 ^ (b + 1)) (hb : b < 1920) : Fn (b + 2) 0 (.int i) := Fn.int (by
  rcases Nat.eq_zero_or_pos i.natAbs with e | e
  · rw [e]; exact Nat.zero_le _
  · have := (Nat.log2_lt (n := i.natAbs) (k := b + 1) (by omega)).mpr h
    omega) hb
theorem Fn.tup {B k : Nat} {ds : List D} {n : Nat} (h : ∀ d ∈ ds, Fn B k d) (hn : ds.length ≤ n) : Fn ((B + 2) * n + 3) (k + 1) (.tup ds) := by
  obtain ⟨h1, h2, h3⟩ := Fn.all h
  have := Nat.mul_le_mul_left (B + 2) hn
  exact ⟨by rw [D.num]; exact h1, by rw [D.py, PyData.depth]; omega, by rw [D.shl]; omega⟩
theorem Fn.lst {B k : Nat} {ds : List D} {n : Nat} (h : ∀ d ∈ ds, Fn B k d) (hn : ds.length ≤ n) : Fn ((B + 2) * n + 3) (k + 1) (.lst ds) := by
  obtain ⟨h1, h2, h3⟩ := Fn.all h
  have := Nat.mul_le_mul_left (B + 2) hn
  exact ⟨by rw [D.num]; exact h1, by rw [D.py, PyData.depth]; omega, by rw [D.shl]; omega⟩
theorem Fn.okR {B k : Nat} {d : D} (h : Fn B k d) (hk : k ≤ 60) (hB : B ≤ 16777216) : d.okR = true := by
  obtain ⟨h1, h2, h3⟩ := h
  unfold D.okR
  rw [h1]
  simp only [Bool.true_and, Bool.and_eq_true, decide_eq_true_eq]
  exact ⟨by omega, by show d.shl ≤ 16777216; omega⟩
theorem okR_new {ds : List D} : (D.new ds).okR = (D.lst ds).okR := by unfold D.okR; rw [D.num, D.num, D.py, D.py, D.shl, D.shl]
theorem okR_bor {ds : List D} : (D.bor ds).okR = (D.lst ds).okR := by unfold D.okR; rw [D.num, D.num, D.py, D.py, D.shl, D.shl]
theorem repr_new {ds : List D} (h : (D.lst ds).okR = true) : reprD (.new ds) = some (.str (D.lst ds).py.shown) := by
  rw [okR_repr (okR_new.trans h), D.py, D.py]
theorem repr_bor {ds : List D} (h : (D.lst ds).okR = true) : reprD (.bor ds) = some (.str (D.lst ds).py.shown) := by
  rw [okR_repr (okR_bor.trans h), D.py, D.py]
mutual
theorem num_canLay : ∀ d : D, d.num = true → d.py.canLay0 = true
  | .non, _ => by rw [D.py]; rfl
  | .bl _, _ => by rw [D.py]; rfl
  | .int _, _ => by rw [D.py]; rfl
  | .lst ds, h => by rw [D.num] at h; rw [D.py, PyData.canLay0]; exact numAll_canLay ds h
  | .tup ds, h => by rw [D.num] at h; rw [D.py, PyData.canLay0]; exact numAll_canLay ds h
  | .new ds, h => by rw [D.num] at h; rw [D.py, PyData.canLay0]; exact numAll_canLay ds h
  | .bor ds, h => by rw [D.num] at h; rw [D.py, PyData.canLay0]; exact numAll_canLay ds h
  | .str _, h => by simp [D.num] at h
  | .frz _, h => by simp [D.num] at h
  | .obj _ _, h => by simp [D.num] at h
theorem numAll_canLay : ∀ ds : List D, D.numAll ds = true → PyData.canLayAll0 (D.pyAll ds) = true
  | [], _ => by simp [D.pyAll, PyData.canLayAll0]
  | d :: ds, h => by
    rw [D.numAll, Bool.and_eq_true] at h
    rw [D.pyAll, PyData.canLayAll0, num_canLay d h.1, numAll_canLay ds h.2]; rfl
end
theorem Fn.okEq {B k : Nat} {d : D} (h : Fn B k d) (hk : k ≤ 60) : okEq d = true := by
  have h1 := num_sh d h.num
  have h2 := num_canLay d h.num
  have h3 := h.dep
  unfold DL.okEq SeqAt.shaped
  rw [h1.pure, h2]
  simp only [Bool.true_and, decide_eq_true_eq]
  omega
theorem Fn.eq {B k : Nat} {d : D} (h : Fn B k d) (hk : k ≤ 60) : eqD d d = some (.bl true) := by
  unfold eqD
  rw [h.okEq hk, SeqAt.eqv_refl d.py (num_canLay d h.num)]; rfl
theorem Fn.ne {B k : Nat} {d : D} (h : Fn B k d) (hk : k ≤ 60) : neD d d = some (.bl false) := by
  unfold neD
  rw [h.okEq hk, SeqAt.eqv_refl d.py (num_canLay d h.num)]; rfl
end DL

namespace DL
open PySem L2
local macro_rules
  | `(tactic| simp_arith [$xs,*]) => `(tactic| simp (config := {failIfUnchanged := false}) only [o0, o1, o2, o3, o4, o5, o6, o7, o8, o9, o10, o11, o12, o13, o14, o15, o16, o17, o18, o19, o20, o21, o22, o23, o24, o25, o26, o27, o28, o29, o30, o31, o32, o33, o34, o35, o36, o37, o38, o39, o40, o41, o42, o43, o44, o45, o46, o47, o48, at_seq, at_skip, at_asg, own_new, at_own, at_drop, at_ret, at_retN, rO_own, at_retOwn, at_if, at_brk, at_cnt, at_raise, ooS_some, unp1_tup, at_unp, setAll_nil, setAll_cons, par1_ok, par1_err, at_par2, frz1_own, frz1_v, at_frz, app0_own, at_app, app1_ok, pop0_own, at_pop, clr0_own, at_clr, aug0_int, aug1_int, at_aug, at_for, for_nil, gnx_some, for_cons, at_gN, at_gU,  at_e1, at_e2, at_st, vO_v, vO_own, at_var, at_c, settle_non, settle_bl, settle_int, settle_str, settle_lst, settle_tup, settle_frz, settle_new, add_int, add_str, add_tup, add_lst_lst, add_lst_new, add_lst_bor, add_new_lst, add_new_new, add_new_bor, add_bor_lst, add_bor_new, add_bor_bor, sub_int, mul_r, mul_l, fdiv_p, mod_p, pow_p, neg_int, lt_int, le_int, gt_int, ge_int, is_bl, ni_bl, is_n_non, ni_n_non, is_n_bl, ni_n_bl, is_n_int, ni_n_int, is_n_str, ni_n_str, is_n_lst, ni_n_lst, is_n_tup, ni_n_tup, is_n_new, ni_n_new, is_n_bor, ni_n_bor, items_lst, len_lst, list_lst, tuple_lst, ix_lst, tru_lst, rev_lst, slice_lst, ty_lst, sum_lst, all_lst, any_lst, items_new, len_new, list_new, tuple_new, ix_new, tru_new, rev_new, slice_new, ty_new, sum_new, all_new, any_new, items_bor, len_bor, list_bor, tuple_bor, ix_bor, tru_bor, rev_bor, slice_bor, ty_bor, sum_bor, all_bor, any_bor, len_tup, len_frz, len_str, list_tup, list_frz, tuple_tup, ix_tup, tru_tup, tru_bl, tru_int, tru_non, slice_tup, slice_frz, revT_tup, int_int, int_bl, abs_int, max_int, min_int, blO_bl, ty_non, ty_bl, ty_int, ty_str, ty_tup, at_tst, at_tst0, nB_ok, nB_err, at_notB, at_andB, at_orB, at_andE, at_orE, nE_ok, nE_err, at_notE, at_ifE, at_nilA, at_consA, tupL_ok, lstL_ok, at_tup, at_lst, callL_0, callL_1, callL_2, callL_3, callL_4, callL_5, at_call, at_chK, at_ch2, at_ch0, chR_ok, at_ch, at_isi, obl_some, isi1_at, kit2_t, kit2_f, at_kitT2, slc_ok, at_slice, at_noO, soO_int, at_someO, sq1_tup, sq1_lst, bl1_ok, bl1_err, bl1_st, at_seqI, rg1_int, at_rng1, rg2_int, rg0_ok, at_rng2, lc0_ok, at_lc, wipe_nil, wipe_cons, at_yes, kitT_int_int, kitT_int_bool, kitT_int_str, kitT_int_list, kitT_int_tuple, kitT_int_none, kitT_bool_int, kitT_bool_bool, kitT_bool_str, kitT_bool_list, kitT_bool_tuple, kitT_bool_none, kitT_tuple_int, kitT_tuple_bool, kitT_tuple_str, kitT_tuple_list, kitT_tuple_tuple, kitT_tuple_none, kitT_list_int, kitT_list_bool, kitT_list_str, kitT_list_list, kitT_list_tuple, kitT_list_none, kitT_str_int, kitT_str_bool, kitT_str_str, kitT_str_list, kitT_str_tuple, kitT_str_none, eqD_int, neD_int, eqD_bl, neD_bl, List.map_cons, List.map_nil, List.replicate, List.cons_append, List.nil_append, List.set_cons_zero, List.set_cons_succ, List.getElem?_cons_zero, List.getElem?_cons_succ, List.length_cons, List.length_nil, List.length_map, List.length_range, bind_ok, bind_err, bind_st, ofO_some, ofO_none, then_ok, then_err, then_st, Option.bind_some, Option.bind_none, Option.map_some, Option.map_none, Nat.zero_add, Nat.reduceAdd, Nat.reduceLeDiff, Nat.reduceEqDiff, ite_true, ite_false, if_true, if_false, reduceIte, Bool.not_true, Bool.not_false, Bool.false_eq_true, decide_eq_true_eq, Bool.not_eq_true, Int.reduceLT, Int.reduceLE, Int.reduceNeg, Int.reduceToNat, Int.reducePow, Int.reduceEq, Int.reduceAdd, Int.reduceSub, Int.reduceMul, Nat.reduceLT, decide_true, decide_false, $xs,*])
local macro_rules
  | `(tactic| simp_arith) => `(tactic| simp (config := {failIfUnchanged := false}) only [o0, o1, o2, o3, o4, o5, o6, o7, o8, o9, o10, o11, o12, o13, o14, o15, o16, o17, o18, o19, o20, o21, o22, o23, o24, o25, o26, o27, o28, o29, o30, o31, o32, o33, o34, o35, o36, o37, o38, o39, o40, o41, o42, o43, o44, o45, o46, o47, o48, at_seq, at_skip, at_asg, own_new, at_own, at_drop, at_ret, at_retN, rO_own, at_retOwn, at_if, at_brk, at_cnt, at_raise, ooS_some, unp1_tup, at_unp, setAll_nil, setAll_cons, par1_ok, par1_err, at_par2, frz1_own, frz1_v, at_frz, app0_own, at_app, app1_ok, pop0_own, at_pop, clr0_own, at_clr, aug0_int, aug1_int, at_aug, at_for, for_nil, gnx_some, for_cons, at_gN, at_gU,  at_e1, at_e2, at_st, vO_v, vO_own, at_var, at_c, settle_non, settle_bl, settle_int, settle_str, settle_lst, settle_tup, settle_frz, settle_new, add_int, add_str, add_tup, add_lst_lst, add_lst_new, add_lst_bor, add_new_lst, add_new_new, add_new_bor, add_bor_lst, add_bor_new, add_bor_bor, sub_int, mul_r, mul_l, fdiv_p, mod_p, pow_p, neg_int, lt_int, le_int, gt_int, ge_int, is_bl, ni_bl, is_n_non, ni_n_non, is_n_bl, ni_n_bl, is_n_int, ni_n_int, is_n_str, ni_n_str, is_n_lst, ni_n_lst, is_n_tup, ni_n_tup, is_n_new, ni_n_new, is_n_bor, ni_n_bor, items_lst, len_lst, list_lst, tuple_lst, ix_lst, tru_lst, rev_lst, slice_lst, ty_lst, sum_lst, all_lst, any_lst, items_new, len_new, list_new, tuple_new, ix_new, tru_new, rev_new, slice_new, ty_new, sum_new, all_new, any_new, items_bor, len_bor, list_bor, tuple_bor, ix_bor, tru_bor, rev_bor, slice_bor, ty_bor, sum_bor, all_bor, any_bor, len_tup, len_frz, len_str, list_tup, list_frz, tuple_tup, ix_tup, tru_tup, tru_bl, tru_int, tru_non, slice_tup, slice_frz, revT_tup, int_int, int_bl, abs_int, max_int, min_int, blO_bl, ty_non, ty_bl, ty_int, ty_str, ty_tup, at_tst, at_tst0, nB_ok, nB_err, at_notB, at_andB, at_orB, at_andE, at_orE, nE_ok, nE_err, at_notE, at_ifE, at_nilA, at_consA, tupL_ok, lstL_ok, at_tup, at_lst, callL_0, callL_1, callL_2, callL_3, callL_4, callL_5, at_call, at_chK, at_ch2, at_ch0, chR_ok, at_ch, at_isi, obl_some, isi1_at, kit2_t, kit2_f, at_kitT2, slc_ok, at_slice, at_noO, soO_int, at_someO, sq1_tup, sq1_lst, bl1_ok, bl1_err, bl1_st, at_seqI, rg1_int, at_rng1, rg2_int, rg0_ok, at_rng2, lc0_ok, at_lc, wipe_nil, wipe_cons, at_yes, kitT_int_int, kitT_int_bool, kitT_int_str, kitT_int_list, kitT_int_tuple, kitT_int_none, kitT_bool_int, kitT_bool_bool, kitT_bool_str, kitT_bool_list, kitT_bool_tuple, kitT_bool_none, kitT_tuple_int, kitT_tuple_bool, kitT_tuple_str, kitT_tuple_list, kitT_tuple_tuple, kitT_tuple_none, kitT_list_int, kitT_list_bool, kitT_list_str, kitT_list_list, kitT_list_tuple, kitT_list_none, kitT_str_int, kitT_str_bool, kitT_str_str, kitT_str_list, kitT_str_tuple, kitT_str_none, eqD_int, neD_int, eqD_bl, neD_bl, List.map_cons, List.map_nil, List.replicate, List.cons_append, List.nil_append, List.set_cons_zero, List.set_cons_succ, List.getElem?_cons_zero, List.getElem?_cons_succ, List.length_cons, List.length_nil, List.length_map, List.length_range, bind_ok, bind_err, bind_st, ofO_some, ofO_none, then_ok, then_err, then_st, Option.bind_some, Option.bind_none, Option.map_some, Option.map_none, Nat.zero_add, Nat.reduceAdd, Nat.reduceLeDiff, Nat.reduceEqDiff, ite_true, ite_false, if_true, if_false, reduceIte, Bool.not_true, Bool.not_false, Bool.false_eq_true, decide_eq_true_eq, Bool.not_eq_true, Int.reduceLT, Int.reduceLE, Int.reduceNeg, Int.reduceToNat, Int.reducePow, Int.reduceEq, Int.reduceAdd, Int.reduceSub, Int.reduceMul, Nat.reduceLT, decide_true, decide_false])
/-! curvatures at words, exchanged as numbers (the code of 075c2f3) -/
theorem xn2_ok (q : Int × Int × Int × Int) {n : Int} (hn : 1 ≤ n ∧ n ≤ 4) : F_exchanged_numbers [Tq q, .int n] = .ok (Tq (exq n q)) := by
  obtain ⟨a, b, c, d⟩ := q
  rcases n4 hn with rfl | rfl | rfl | rfl
  all_goals
    simp_arith [at_run, at_retF, rtF_new, rtF_lst, rtF_tup, rtF_int, rtF_str, rtF_bl, rtF_non, rtF_frz, rtF_obj, rN_own, at_retOwnN, at_wp, wp_nx, wp_bk, wp_ct, wp_er, wp_rt, Nat.zero_le, F_exchanged_numbers, b_exchanged_numbers, sum4, at4_0, at4_1, at4_2, at4_3, mul_l, cut4_l0, cut4_l1, cut4_l2, cut4_l3, cut4_r1, cut4_r2, cut4_r3, cut4_r4, add_tup, exq]
theorem na2_loop (w : D) : ∀ (W : List Int), W4 W → ∀ (q : Int × Int × Int × Int), forO (gN 2) lb_numbers_at_0 (il W) [.v (Tq q), .v w, .un] = .nx [.v (Tq (lastq W q)), .v w, .un]
  | [], _, q => rfl
  | n :: W, h, q => by
    have hn := h n (List.mem_cons_self ..)
    have ih := na2_loop w W (fun y z => h y (List.mem_cons_of_mem _ z)) (exq n q)
    have e2 : lastq (n :: W) q = lastq W (exq n q) := rfl
    have ho := xn2_ok q hn
    rw [il_cons, e2, ← ih]
    simp_arith [at_run, at_retF, rtF_new, rtF_lst, rtF_tup, rtF_int, rtF_str, rtF_bl, rtF_non, rtF_frz, rtF_obj, rN_own, at_retOwnN, at_wp, wp_nx, wp_bk, wp_ct, wp_er, wp_rt, Nat.zero_le, lb_numbers_at_0, ho]
theorem na2_ok (C : Addr) (q : Int × Int × Int × Int) {w : D} {W : List Int} (i : IsW w W) (h : W4 W) : F_numbers_at C [Tq q, w] = .ok (Tq (lastq W q)) := by
  have e1 := chk_ok C i h
  have e2' := na2_loop w W h q
  cases i <;> simp_arith [at_run, at_retF, rtF_new, rtF_lst, rtF_tup, rtF_int, rtF_str, rtF_bl, rtF_non, rtF_frz, rtF_obj, rN_own, at_retOwnN, at_wp, wp_nx, wp_bk, wp_ct, wp_er, wp_rt, Nat.zero_le, F_numbers_at, b_numbers_at, e1, e2']
theorem cat2_ok (C C2 : Addr) {e d : D} {W : List Int} {B : Int} {q : Int × Int × Int × Int} (j : IsW e (lq q)) (i : IsW d W) (h : W4 W) (hq : QF B q) (hB : B < 1152921504606846976) : F_curvatures_at_2 C C2 [e, d] = .ok (Tq (lastq W q)) := by
  have e1 := cq_ok C j hq.fits (hq.bd hB) (by simp)
  have e2' := na2_ok C2 q i h
  have hs := j.settle
  have hs2 := i.settle
  have e4 : tupleD e = some (Tq q) := by cases j <;> rfl
  simp_arith [at_run, at_retF, rtF_new, rtF_lst, rtF_tup, rtF_int, rtF_str, rtF_bl, rtF_non, rtF_frz, rtF_obj, rN_own, at_retOwnN, at_wp, wp_nx, wp_bk, wp_ct, wp_er, wp_rt, Nat.zero_le, F_curvatures_at_2, b_curvatures_at_2, hs, hs2, e1, e4, e2']
theorem cal2_loop (s0 s1 : Slot) : ∀ (W : List Int), W4 W → ∀ (q : Int × Int × Int × Int) (acc : List D), acc.length + W.length < 16777200 →
    forO (gN 3) lb_curvatures_along_2_0 (il W) [s0, s1, .own (acc ++ [Tq q]), .un] = .nx [s0, s1, .own (acc ++ (q :: scq W q).map Tq), .un]
  | [], _, q, acc, _ => by simp [forO, scq]
  | n :: W, h, q, acc, hl => by
    rw [List.length_cons] at hl
    have hn := h n (List.mem_cons_self ..)
    have ih := cal2_loop s0 s1 W (fun y m => h y (List.mem_cons_of_mem _ m)) (exq n q) (acc ++ [Tq q]) (by rw [List.length_append, List.length_singleton]; omega)
    have e1 : acc ++ (q :: scq (n :: W) q).map Tq = acc ++ [Tq q] ++ (exq n q :: scq W (exq n q)).map Tq := by simp [scq]
    have e2' := xn2_ok q hn
    have e3 : L2.atI (acc ++ [Tq q]) (-1) = some (Tq q) := by
      unfold L2.atI L2.ixN
      rw [if_neg (by decide), if_pos (by simp; omega)]
      have : ((-1 : Int) + (acc ++ [Tq q]).length).toNat = acc.length := by simp; omega
      simp only [Option.bind_some]
      rw [this]
      simp
    have hl2 : (acc ++ [Tq q]).length < 16777216 := by rw [List.length_append, List.length_singleton]; omega
    rw [il_cons, e1, ← ih]
    simp_arith [at_run, at_retF, rtF_new, rtF_lst, rtF_tup, rtF_int, rtF_str, rtF_bl, rtF_non, rtF_frz, rtF_obj, rN_own, at_retOwnN, at_wp, wp_nx, wp_bk, wp_ct, wp_er, wp_rt, Nat.zero_le, lb_curvatures_along_2_0, e3, e2', app1_ok hl2]
theorem cal2_ok (C C2 : Addr) {e d : D} {W : List Int} {B : Int} {q : Int × Int × Int × Int} (j : IsW e (lq q)) (i : IsW d W) (h : W4 W) (hl : W.length < 1000000) (hq : QF B q) (hB : B < 1152921504606846976) :
    F_curvatures_along_2 C C2 [e, d] = .ok (.new ((q :: scq W q).map Tq)) := by
  have e1 := cq_ok C j hq.fits (hq.bd hB) (by simp)
  have e2' := chk_ok C2 i h
  have hs := j.settle
  have hs2 := i.settle
  have e4 : tupleD e = some (Tq q) := by cases j <;> rfl
  have lp := fun s0 s1 => cal2_loop s0 s1 W h q [] (by simp; omega)
  rw [List.nil_append, List.nil_append] at lp
  generalize (q :: scq W q).map Tq = R at *
  cases i <;> simp_arith [at_run, at_retF, rtF_new, rtF_lst, rtF_tup, rtF_int, rtF_str, rtF_bl, rtF_non, rtF_frz, rtF_obj, rN_own, at_retOwnN, at_wp, wp_nx, wp_bk, wp_ct, wp_er, wp_rt, Nat.zero_le, F_curvatures_along_2, b_curvatures_along_2, hs, hs2, e1, e2', e4, lp]
end DL

namespace DL
open PySem L2
abbrev Qd := Int × Int × Int × Int
def nth (n : Int) (q : Qd) : Int := if n = 1 then q.1 else if n = 2 then q.2.1 else if n = 3 then q.2.2.1 else q.2.2.2
def sumq (q : Qd) : Int := q.1 + q.2.1 + q.2.2.1 + q.2.2.2
/-- any two curvatures -/
theorem pp {a b c d : Int} (hq : (a + b + c + d) * (a + b + c + d) = 2 * (a * a + b * b + c * c + d * d)) (hp : 0 < a + b + c + d) : 0 ≤ a + b ∧ (a + b = 0 → a = 0 ∧ b = 0 ∧ c = d) := by
  have key : 2 * ((a + b) * (c + d)) = (a - b) * (a - b) + (c - d) * (c - d) := by grind
  have h1 := sq_nn (a - b)
  have h2 := sq_nn (c - d)
  refine ⟨?_, fun h => ?_⟩
  · by_cases h : 0 ≤ a + b
    · exact h
    · have : (a + b) * (c + d) < 0 := Int.mul_neg_of_neg_of_pos (by omega) (by omega)
      omega
  · rw [h, Int.zero_mul] at key
    have e1 := sq_0 (a := a - b) (by omega)
    have e2 := sq_0 (a := c - d) (by omega)
    omega
structure Pairs (a b c d : Int) : Prop where
  ab : 0 ≤ a + b
  ac : 0 ≤ a + c
  ad : 0 ≤ a + d
  bc : 0 ≤ b + c
  bd : 0 ≤ b + d
  cd : 0 ≤ c + d
  zab : a + b = 0 → a = 0 ∧ b = 0 ∧ c = d
  zac : a + c = 0 → a = 0 ∧ c = 0 ∧ b = d
  zad : a + d = 0 → a = 0 ∧ d = 0 ∧ b = c
  zbc : b + c = 0 → b = 0 ∧ c = 0 ∧ a = d
  zbd : b + d = 0 → b = 0 ∧ d = 0 ∧ a = c
  zcd : c + d = 0 → c = 0 ∧ d = 0 ∧ a = b
theorem QF.pairs {B a b c d : Int} (h : QF B (a, b, c, d)) : Pairs a b c d := by
  obtain ⟨h1, h2, _⟩ := h
  dsimp only at h1 h2
  have k1 := pp h1 h2
  have k2 := pp (a := a) (b := c) (c := b) (d := d) (by grind) (by omega)
  have k3 := pp (a := a) (b := d) (c := b) (d := c) (by grind) (by omega)
  have k4 := pp (a := b) (b := c) (c := a) (d := d) (by grind) (by omega)
  have k5 := pp (a := b) (b := d) (c := a) (d := c) (by grind) (by omega)
  have k6 := pp (a := c) (b := d) (c := a) (d := b) (by grind) (by omega)
  exact ⟨k1.1, k2.1, k3.1, k4.1, k5.1, k6.1, k1.2, k2.2, k3.2, k4.2, k5.2, k6.2⟩
/-- the n-th one is greater than the others -/
def Top (n : Int) (q : Qd) : Prop := ∀ m, 1 ≤ m → m ≤ 4 → m ≠ n → nth m q < nth n q
theorem Top.step {B : Int} {q : Qd} {j n : Int} (h : QF B q) (hj : 1 ≤ j ∧ j ≤ 4) (hn : 1 ≤ n ∧ n ≤ 4) (ne : n ≠ j) (t : Top j q) : Top n (exq n q) ∧ sumq q < sumq (exq n q) := by
  obtain ⟨a, b, c, d⟩ := q
  obtain ⟨ab, ac, ad, bc, bd, cd, -⟩ := h.pairs
  have t1 := t 1 (by decide) (by decide)
  have t2 := t 2 (by decide) (by decide)
  have t3 := t 3 (by decide) (by decide)
  have t4 := t 4 (by decide) (by decide)
  clear t h
  have m4 : ∀ {m : Int}, 1 ≤ m → m ≤ 4 → m = 1 ∨ m = 2 ∨ m = 3 ∨ m = 4 := fun h1 h2 => by omega
  rcases n4 hj with rfl | rfl | rfl | rfl <;> rcases n4 hn with rfl | rfl | rfl | rfl <;> first | exact absurd rfl ne | skip
  all_goals
    simp [nth] at t1 t2 t3 t4
    refine ⟨fun m h1 h2 h3 => ?_, by simp [sumq, exq]; omega⟩
    rcases m4 h1 h2 with rfl | rfl | rfl | rfl <;> first | exact absurd rfl h3 | (simp [nth, exq]; omega)
/-- a root -/
structure RF (B : Int) (q : Qd) : Prop where
  qf : QF B q
  r1 : 2 * q.1 ≤ sumq q
  r2 : 2 * q.2.1 ≤ sumq q
  r3 : 2 * q.2.2.1 ≤ sumq q
  r4 : 2 * q.2.2.2 ≤ sumq q
theorem RF.step {B : Int} {q : Qd} {n : Int} (h : RF B q) (neg : q.1 < 0 ∨ q.2.1 < 0 ∨ q.2.2.1 < 0 ∨ q.2.2.2 < 0) (hn : 1 ≤ n ∧ n ≤ 4) : Top n (exq n q) ∧ sumq q ≤ sumq (exq n q) ∧ (sumq (exq n q) = sumq q ↔ 2 * nth n q = sumq q) := by
  obtain ⟨a, b, c, d⟩ := q
  obtain ⟨qf, r1, r2, r3, r4⟩ := h
  have hp := qf.pos
  obtain ⟨ab, ac, ad, bc, bd, cd, zab, zac, zad, zbc, zbd, zcd⟩ := qf.pairs
  simp only [sumq] at r1 r2 r3 r4
  dsimp only at neg hp
  have m4 : ∀ {m : Int}, 1 ≤ m → m ≤ 4 → m = 1 ∨ m = 2 ∨ m = 3 ∨ m = 4 := fun h1 h2 => by omega
  rcases n4 hn with rfl | rfl | rfl | rfl
  all_goals
    refine ⟨fun m h1 h2 h3 => ?_, by simp [sumq, exq]; omega, by simp [sumq, exq, nth]; omega⟩
    rcases m4 h1 h2 with rfl | rfl | rfl | rfl <;> first | exact absurd rfl h3 | (simp [nth, exq]; omega)
end DL

namespace DL
open PySem L2
local macro_rules
  | `(tactic| simp_arith [$xs,*]) => `(tactic| simp (config := {failIfUnchanged := false}) only [o0, o1, o2, o3, o4, o5, o6, o7, o8, o9, o10, o11, o12, o13, o14, o15, o16, o17, o18, o19, o20, o21, o22, o23, o24, o25, o26, o27, o28, o29, o30, o31, o32, o33, o34, o35, o36, o37, o38, o39, o40, o41, o42, o43, o44, o45, o46, o47, o48, at_seq, at_skip, at_asg, own_new, at_own, at_drop, at_ret, at_retN, rO_own, at_retOwn, at_if, at_brk, at_cnt, at_raise, ooS_some, unp1_tup, at_unp, setAll_nil, setAll_cons, par1_ok, par1_err, at_par2, frz1_own, frz1_v, at_frz, app0_own, at_app, app1_ok, pop0_own, at_pop, clr0_own, at_clr, aug0_int, aug1_int, at_aug, at_for, for_nil, gnx_some, for_cons, at_gN, at_gU,  at_e1, at_e2, at_st, vO_v, vO_own, at_var, at_c, settle_non, settle_bl, settle_int, settle_str, settle_lst, settle_tup, settle_frz, settle_new, add_int, add_str, add_tup, add_lst_lst, add_lst_new, add_lst_bor, add_new_lst, add_new_new, add_new_bor, add_bor_lst, add_bor_new, add_bor_bor, sub_int, mul_r, mul_l, fdiv_p, mod_p, pow_p, neg_int, lt_int, le_int, gt_int, ge_int, is_bl, ni_bl, is_n_non, ni_n_non, is_n_bl, ni_n_bl, is_n_int, ni_n_int, is_n_str, ni_n_str, is_n_lst, ni_n_lst, is_n_tup, ni_n_tup, is_n_new, ni_n_new, is_n_bor, ni_n_bor, items_lst, len_lst, list_lst, tuple_lst, ix_lst, tru_lst, rev_lst, slice_lst, ty_lst, sum_lst, all_lst, any_lst, items_new, len_new, list_new, tuple_new, ix_new, tru_new, rev_new, slice_new, ty_new, sum_new, all_new, any_new, items_bor, len_bor, list_bor, tuple_bor, ix_bor, tru_bor, rev_bor, slice_bor, ty_bor, sum_bor, all_bor, any_bor, len_tup, len_frz, len_str, list_tup, list_frz, tuple_tup, ix_tup, tru_tup, tru_bl, tru_int, tru_non, slice_tup, slice_frz, revT_tup, int_int, int_bl, abs_int, max_int, min_int, blO_bl, ty_non, ty_bl, ty_int, ty_str, ty_tup, at_tst, at_tst0, nB_ok, nB_err, at_notB, at_andB, at_orB, at_andE, at_orE, nE_ok, nE_err, at_notE, at_ifE, at_nilA, at_consA, tupL_ok, lstL_ok, at_tup, at_lst, callL_0, callL_1, callL_2, callL_3, callL_4, callL_5, at_call, at_chK, at_ch2, at_ch0, chR_ok, at_ch, at_isi, obl_some, isi1_at, kit2_t, kit2_f, at_kitT2, slc_ok, at_slice, at_noO, soO_int, at_someO, sq1_tup, sq1_lst, bl1_ok, bl1_err, bl1_st, at_seqI, rg1_int, at_rng1, rg2_int, rg0_ok, at_rng2, lc0_ok, at_lc, wipe_nil, wipe_cons, at_yes, kitT_int_int, kitT_int_bool, kitT_int_str, kitT_int_list, kitT_int_tuple, kitT_int_none, kitT_bool_int, kitT_bool_bool, kitT_bool_str, kitT_bool_list, kitT_bool_tuple, kitT_bool_none, kitT_tuple_int, kitT_tuple_bool, kitT_tuple_str, kitT_tuple_list, kitT_tuple_tuple, kitT_tuple_none, kitT_list_int, kitT_list_bool, kitT_list_str, kitT_list_list, kitT_list_tuple, kitT_list_none, kitT_str_int, kitT_str_bool, kitT_str_str, kitT_str_list, kitT_str_tuple, kitT_str_none, eqD_int, neD_int, eqD_bl, neD_bl, List.map_cons, List.map_nil, List.replicate, List.cons_append, List.nil_append, List.set_cons_zero, List.set_cons_succ, List.getElem?_cons_zero, List.getElem?_cons_succ, List.length_cons, List.length_nil, List.length_map, List.length_range, bind_ok, bind_err, bind_st, ofO_some, ofO_none, then_ok, then_err, then_st, Option.bind_some, Option.bind_none, Option.map_some, Option.map_none, Nat.zero_add, Nat.reduceAdd, Nat.reduceLeDiff, Nat.reduceEqDiff, ite_true, ite_false, if_true, if_false, reduceIte, Bool.not_true, Bool.not_false, Bool.false_eq_true, decide_eq_true_eq, Bool.not_eq_true, Int.reduceLT, Int.reduceLE, Int.reduceNeg, Int.reduceToNat, Int.reducePow, Int.reduceEq, Int.reduceAdd, Int.reduceSub, Int.reduceMul, Nat.reduceLT, decide_true, decide_false, $xs,*])
local macro_rules
  | `(tactic| simp_arith) => `(tactic| simp (config := {failIfUnchanged := false}) only [o0, o1, o2, o3, o4, o5, o6, o7, o8, o9, o10, o11, o12, o13, o14, o15, o16, o17, o18, o19, o20, o21, o22, o23, o24, o25, o26, o27, o28, o29, o30, o31, o32, o33, o34, o35, o36, o37, o38, o39, o40, o41, o42, o43, o44, o45, o46, o47, o48, at_seq, at_skip, at_asg, own_new, at_own, at_drop, at_ret, at_retN, rO_own, at_retOwn, at_if, at_brk, at_cnt, at_raise, ooS_some, unp1_tup, at_unp, setAll_nil, setAll_cons, par1_ok, par1_err, at_par2, frz1_own, frz1_v, at_frz, app0_own, at_app, app1_ok, pop0_own, at_pop, clr0_own, at_clr, aug0_int, aug1_int, at_aug, at_for, for_nil, gnx_some, for_cons, at_gN, at_gU,  at_e1, at_e2, at_st, vO_v, vO_own, at_var, at_c, settle_non, settle_bl, settle_int, settle_str, settle_lst, settle_tup, settle_frz, settle_new, add_int, add_str, add_tup, add_lst_lst, add_lst_new, add_lst_bor, add_new_lst, add_new_new, add_new_bor, add_bor_lst, add_bor_new, add_bor_bor, sub_int, mul_r, mul_l, fdiv_p, mod_p, pow_p, neg_int, lt_int, le_int, gt_int, ge_int, is_bl, ni_bl, is_n_non, ni_n_non, is_n_bl, ni_n_bl, is_n_int, ni_n_int, is_n_str, ni_n_str, is_n_lst, ni_n_lst, is_n_tup, ni_n_tup, is_n_new, ni_n_new, is_n_bor, ni_n_bor, items_lst, len_lst, list_lst, tuple_lst, ix_lst, tru_lst, rev_lst, slice_lst, ty_lst, sum_lst, all_lst, any_lst, items_new, len_new, list_new, tuple_new, ix_new, tru_new, rev_new, slice_new, ty_new, sum_new, all_new, any_new, items_bor, len_bor, list_bor, tuple_bor, ix_bor, tru_bor, rev_bor, slice_bor, ty_bor, sum_bor, all_bor, any_bor, len_tup, len_frz, len_str, list_tup, list_frz, tuple_tup, ix_tup, tru_tup, tru_bl, tru_int, tru_non, slice_tup, slice_frz, revT_tup, int_int, int_bl, abs_int, max_int, min_int, blO_bl, ty_non, ty_bl, ty_int, ty_str, ty_tup, at_tst, at_tst0, nB_ok, nB_err, at_notB, at_andB, at_orB, at_andE, at_orE, nE_ok, nE_err, at_notE, at_ifE, at_nilA, at_consA, tupL_ok, lstL_ok, at_tup, at_lst, callL_0, callL_1, callL_2, callL_3, callL_4, callL_5, at_call, at_chK, at_ch2, at_ch0, chR_ok, at_ch, at_isi, obl_some, isi1_at, kit2_t, kit2_f, at_kitT2, slc_ok, at_slice, at_noO, soO_int, at_someO, sq1_tup, sq1_lst, bl1_ok, bl1_err, bl1_st, at_seqI, rg1_int, at_rng1, rg2_int, rg0_ok, at_rng2, lc0_ok, at_lc, wipe_nil, wipe_cons, at_yes, kitT_int_int, kitT_int_bool, kitT_int_str, kitT_int_list, kitT_int_tuple, kitT_int_none, kitT_bool_int, kitT_bool_bool, kitT_bool_str, kitT_bool_list, kitT_bool_tuple, kitT_bool_none, kitT_tuple_int, kitT_tuple_bool, kitT_tuple_str, kitT_tuple_list, kitT_tuple_tuple, kitT_tuple_none, kitT_list_int, kitT_list_bool, kitT_list_str, kitT_list_list, kitT_list_tuple, kitT_list_none, kitT_str_int, kitT_str_bool, kitT_str_str, kitT_str_list, kitT_str_tuple, kitT_str_none, eqD_int, neD_int, eqD_bl, neD_bl, List.map_cons, List.map_nil, List.replicate, List.cons_append, List.nil_append, List.set_cons_zero, List.set_cons_succ, List.getElem?_cons_zero, List.getElem?_cons_succ, List.length_cons, List.length_nil, List.length_map, List.length_range, bind_ok, bind_err, bind_st, ofO_some, ofO_none, then_ok, then_err, then_st, Option.bind_some, Option.bind_none, Option.map_some, Option.map_none, Nat.zero_add, Nat.reduceAdd, Nat.reduceLeDiff, Nat.reduceEqDiff, ite_true, ite_false, if_true, if_false, reduceIte, Bool.not_true, Bool.not_false, Bool.false_eq_true, decide_eq_true_eq, Bool.not_eq_true, Int.reduceLT, Int.reduceLE, Int.reduceNeg, Int.reduceToNat, Int.reducePow, Int.reduceEq, Int.reduceAdd, Int.reduceSub, Int.reduceMul, Nat.reduceLT, decide_true, decide_false])
/-! rows as columns of four -/
abbrev RwC (cols : List Qd) : D := .tup [.tup (il (cols.map fun q => q.1)), .tup (il (cols.map fun q => q.2.1)), .tup (il (cols.map fun q => q.2.2.1)), .tup (il (cols.map fun q => q.2.2.2))]
theorem zipC : ∀ cols : List Qd, zip4 (il (cols.map fun q => q.1)) (il (cols.map fun q => q.2.1)) (il (cols.map fun q => q.2.2.1)) (il (cols.map fun q => q.2.2.2)) = cols.map Tq
  | [] => rfl
  | q :: cols => by
    have := zipC cols
    simp only [List.map_cons, il] at this ⊢
    rw [zip4_cons, this]
theorem lc_mapQ {i : Nat} {a : Ev} {ρ : Rho} {h : Qd → Int} : ∀ {qs : List Qd}, (∀ q ∈ qs, stE a (ρ.set i (.v (Tq q))) = .ok (.int (h q))) → lcO (gN i) yesB a ρ (qs.map Tq) = .ok (il (qs.map h))
  | [], _ => rfl
  | q :: qs, e => by
    have e1 := e q (List.mem_cons_self ..)
    have ih := lc_mapQ fun x m => e x (List.mem_cons_of_mem _ m)
    rw [List.map_cons, lc_cons, ih, gN_at, lcS_some]
    simp only [at_yes, sure_ok, bind_ok, if_true, e1]
    rfl
theorem exq_nth (n : Int) (q : Qd) (h : 1 ≤ n ∧ n ≤ 4) : nth n (exq n q) = 2 * (q.1 + q.2.1 + q.2.2.1 + q.2.2.2) - 3 * nth n q := by
  obtain ⟨a, b, c, d⟩ := q
  rcases n4 h with rfl | rfl | rfl | rfl <;> simp [nth, exq]
theorem at_nth (q : Qd) {n : Int} (h : 1 ≤ n ∧ n ≤ 4) : L2.atI [D.int q.1, .int q.2.1, .int q.2.2.1, .int q.2.2.2] (n - 1) = some (.int (nth n q)) := by
  obtain ⟨a, b, c, d⟩ := q
  rcases n4 h with rfl | rfl | rfl | rfl <;> rfl
theorem mrC_ok (cols : List Qd) {n : Int} (h : 1 ≤ n ∧ n ≤ 4) (hl : cols.length ≤ 16777216) : F_made_row [RwC cols, .int n] = .ok (.tup (il (cols.map fun q => nth n (exq n q)))) := by
  have e := fun s0 => lc_mapQ (i := 2) (a := le_made_row_0) (ρ := [s0, .v (.int n), .un]) (h := fun q => nth n (exq n q)) (qs := cols) fun q _ => by
    rw [exq_nth n q h]
    have e1 := at_nth q h
    simp_arith [at_run, at_retF, rtF_new, rtF_lst, rtF_tup, rtF_int, rtF_str, rtF_bl, rtF_non, rtF_frz, rtF_obj, rN_own, at_retOwnN, at_wp, wp_nx, wp_bk, wp_ct, wp_er, wp_rt, Nat.zero_le, le_made_row_0, sum4, e1, mul_l]
  have hz : zs4 (RwC cols) = some (cols.map Tq) := congrArg some (zipC cols)
  have hl2 : (cols.map Tq).length ≤ 16777216 := by simpa using hl
  have hz2 : z1 (RwC cols) = .ok (cols.map Tq) := by unfold z1; rw [hz]; rfl
  have hz3 : z1 (.tup [.tup (List.map D.int (cols.map fun q => q.1)), .tup (List.map D.int (cols.map fun q => q.2.1)), .tup (List.map D.int (cols.map fun q => q.2.2.1)), .tup (List.map D.int (cols.map fun q => q.2.2.2))]) = .ok (cols.map Tq) := hz2
  have lc : ∀ ρ, lc0 (gN 2) yesB le_made_row_0 ρ (cols.map Tq) = (lcO (gN 2) yesB le_made_row_0 ρ (cols.map Tq)).bt fun xs => .ok (.new xs) := fun ρ => lc0_ok hl2
  simp_arith [at_run, at_retF, rtF_new, rtF_lst, rtF_tup, rtF_int, rtF_str, rtF_bl, rtF_non, rtF_frz, rtF_obj, rN_own, at_retOwnN, at_wp, wp_nx, wp_bk, wp_ct, wp_er, wp_rt, Nat.zero_le, F_made_row, b_made_row, at_zsI, hz3, lc, e]
theorem xrC_ok (cols : List Qd) {n : Int} (h : 1 ≤ n ∧ n ≤ 4) (hl : cols.length ≤ 16777216) : F_exchanged_rows [RwC cols, .int n] = .ok (RwC (cols.map (exq n))) := by
  have e := mrC_ok cols h hl
  have m1 : ∀ f : Qd → Int, (cols.map (exq n)).map f = cols.map fun q => f (exq n q) := fun f => by rw [List.map_map]; rfl
  have hR : RwC (cols.map (exq n)) = .tup [.tup (il (cols.map fun q => (exq n q).1)), .tup (il (cols.map fun q => (exq n q).2.1)), .tup (il (cols.map fun q => (exq n q).2.2.1)), .tup (il (cols.map fun q => (exq n q).2.2.2))] := by
    unfold RwC
    rw [m1, m1, m1, m1]
  rw [hR]
  unfold RwC at e ⊢
  generalize h1 : il (cols.map fun q => q.1) = A at *
  generalize h2 : il (cols.map fun q => q.2.1) = B at *
  generalize h3 : il (cols.map fun q => q.2.2.1) = C at *
  generalize h4 : il (cols.map fun q => q.2.2.2) = E at *
  rcases n4 h with rfl | rfl | rfl | rfl
  all_goals
    simp only [nth, exq, if_true, if_false, Int.reduceEq, h1, h2, h3, h4] at e ⊢
    simp_arith [at_run, at_retF, rtF_new, rtF_lst, rtF_tup, rtF_int, rtF_str, rtF_bl, rtF_non, rtF_frz, rtF_obj, rN_own, at_retOwnN, at_wp, wp_nx, wp_bk, wp_ct, wp_er, wp_rt, Nat.zero_le, F_exchanged_rows, b_exchanged_rows, e, cut4_l0, cut4_l1, cut4_l2, cut4_l3, cut4_r1, cut4_r2, cut4_r3, cut4_r4, add_tup]
theorem atC_loop : ∀ (W : List Int), W4 W → ∀ (cols : List Qd) (w : D), cols.length ≤ 16777216 → forO (gN 2) lb_rows_at_0 (il W) [.v (RwC cols), .v w, .un] = .nx [.v (RwC (cols.map (lastq W))), .v w, .un]
  | [], _, cols, w, _ => by
    have : cols.map (lastq []) = cols := by
      show cols.map id = cols
      simp
    rw [this]; rfl
  | n :: W, h, cols, w, hl => by
    have hn := h n (List.mem_cons_self ..)
    have ih := atC_loop W (fun y m => h y (List.mem_cons_of_mem _ m)) (cols.map (exq n)) w (by simpa using hl)
    have e2 : (cols.map (exq n)).map (lastq W) = cols.map (lastq (n :: W)) := by rw [List.map_map]; rfl
    rw [e2] at ih
    rw [il_cons, ← ih]
    have e := xrC_ok cols hn hl
    generalize hR : RwC cols = R at e ⊢
    generalize hR2 : RwC (cols.map (exq n)) = R2 at e ⊢
    have s1 : R.settle = some R := by rw [← hR]; rfl
    have s2 : R2.settle = some R2 := by rw [← hR2]; rfl
    simp_arith [at_run, at_retF, rtF_new, rtF_lst, rtF_tup, rtF_int, rtF_str, rtF_bl, rtF_non, rtF_frz, rtF_obj, rN_own, at_retOwnN, at_wp, wp_nx, wp_bk, wp_ct, wp_er, wp_rt, Nat.zero_le, lb_rows_at_0, e, s1, s2]
theorem ratC_ok (C : Addr) {d : D} {W : List Int} (i : IsW d W) (h : W4 W) (cols : List Qd) (hl : cols.length ≤ 16777216) : F_rows_at C [RwC cols, d] = .ok (RwC (cols.map (lastq W))) := by
  have e := chk_ok C i h
  have e2 := fun w => atC_loop W h cols w hl
  generalize hR : RwC cols = R at e2 ⊢
  generalize hR2 : RwC (cols.map (lastq W)) = R2 at e2 ⊢
  have s1 : R.settle = some R := by rw [← hR]; rfl
  have s2 : R2.settle = some R2 := by rw [← hR2]; rfl
  cases i with
  | t => simp_arith [at_run, at_retF, rtF_new, rtF_lst, rtF_tup, rtF_int, rtF_str, rtF_bl, rtF_non, rtF_frz, rtF_obj, rN_own, at_retOwnN, at_wp, wp_nx, wp_bk, wp_ct, wp_er, wp_rt, Nat.zero_le, F_rows_at, b_rows_at, e, e2, s1, s2]
  | l => simp_arith [at_run, at_retF, rtF_new, rtF_lst, rtF_tup, rtF_int, rtF_str, rtF_bl, rtF_non, rtF_frz, rtF_obj, rN_own, at_retOwnN, at_wp, wp_nx, wp_bk, wp_ct, wp_er, wp_rt, Nat.zero_le, F_rows_at, b_rows_at, e, e2, s1, s2]
/-! matrices: four rows of four -/
structure Mx where
  a : Qd
  b : Qd
  c : Qd
  d : Qd
abbrev TM (m : Mx) : D := .tup [Tq m.a, Tq m.b, Tq m.c, Tq m.d]
abbrev LM (m : Mx) : D := .lst [Tq m.a, Tq m.b, Tq m.c, Tq m.d]
def tr (m : Mx) : Mx := ⟨(m.a.1, m.b.1, m.c.1, m.d.1), (m.a.2.1, m.b.2.1, m.c.2.1, m.d.2.1), (m.a.2.2.1, m.b.2.2.1, m.c.2.2.1, m.d.2.2.1), (m.a.2.2.2, m.b.2.2.2, m.c.2.2.2, m.d.2.2.2)⟩
def mcol (m : Mx) : List Qd := [m.a, m.b, m.c, m.d]
theorem RwC_tr (m : Mx) : RwC (mcol m) = TM (tr m) := rfl
def dot (r x : Qd) : Int := r.1 * x.1 + r.2.1 * x.2.1 + r.2.2.1 * x.2.2.1 + r.2.2.2 * x.2.2.2
def apl (m : Mx) (x : Qd) : Qd := (dot m.a x, dot m.b x, dot m.c x, dot m.d x)
/-- numbers that may be multiplied with any -/
structure Sq (q : Qd) : Prop where
  a1 : -18446744073709551616 < q.1
  a2 : q.1 < 18446744073709551616
  b1 : -18446744073709551616 < q.2.1
  b2 : q.2.1 < 18446744073709551616
  c1 : -18446744073709551616 < q.2.2.1
  c2 : q.2.2.1 < 18446744073709551616
  d1 : -18446744073709551616 < q.2.2.2
  d2 : q.2.2.2 < 18446744073709551616
structure SM (m : Mx) : Prop where
  a : Sq m.a
  b : Sq m.b
  c : Sq m.c
  d : Sq m.d
inductive IsQ : D → Qd → Prop
  | t (q : Qd) : IsQ (Tq q) q
  | l (q : Qd) : IsQ (.lst [.int q.1, .int q.2.1, .int q.2.2.1, .int q.2.2.2]) q
inductive IsM : D → Mx → Prop
  | t (m : Mx) : IsM (TM m) m
  | l (m : Mx) : IsM (LM m) m
theorem sum4n (a b c d : Int) : sumA (.new [.int a, .int b, .int c, .int d]) = some (.int (a + b + c + d)) := by
  have := sumA_new (ns := [a, b, c, d])
  rw [il4] at this
  rw [this]
  simp
  omega
def zz (ds : List D) : Res (List D) := ofO (zip2 ds)
theorem at_zip2 {fs : Ea} {ρ : Rho} : zip2I fs ρ = (fs ρ).bind zz := id rfl
theorem zz_tt (a b c d x y z w : D) : zz [.tup [a, b, c, d], .tup [x, y, z, w]] = .ok [.tup [a, x], .tup [b, y], .tup [c, z], .tup [d, w]] := id rfl
theorem zz_tl (a b c d x y z w : D) : zz [.tup [a, b, c, d], .lst [x, y, z, w]] = .ok [.tup [a, x], .tup [b, y], .tup [c, z], .tup [d, w]] := id rfl
theorem ap_el (s0 : Slot) {d : D} {x r : Qd} (i : IsQ d x) (h : Sq r) : stE le_applied_1 [s0, .v d, .v (Tq r), .un, .un] = .ok (.int (dot r x)) := by
  obtain ⟨h1, h2, h3, h4, h5, h6, h7, h8⟩ := h
  cases i with
  | t => simp_arith [at_run, at_retF, rtF_new, rtF_lst, rtF_tup, rtF_int, rtF_str, rtF_bl, rtF_non, rtF_frz, rtF_obj, rN_own, at_retOwnN, at_wp, wp_nx, wp_bk, wp_ct, wp_er, wp_rt, Nat.zero_le, le_applied_1, at_zip2, zz_tt, lc_cons, lc_nil, lcS_some, sure_ok, le_applied_0, mul_l, h1, h2, h3, h4, h5, h6, h7, h8, sum4n, dot]
  | l => simp_arith [at_run, at_retF, rtF_new, rtF_lst, rtF_tup, rtF_int, rtF_str, rtF_bl, rtF_non, rtF_frz, rtF_obj, rN_own, at_retOwnN, at_wp, wp_nx, wp_bk, wp_ct, wp_er, wp_rt, Nat.zero_le, le_applied_1, at_zip2, zz_tl, lc_cons, lc_nil, lcS_some, sure_ok, le_applied_0, mul_l, h1, h2, h3, h4, h5, h6, h7, h8, sum4n, dot]
theorem ap_ok {d e : D} {m : Mx} {x : Qd} (j : IsM d m) (i : IsQ e x) (h : SM m) : F_applied [d, e] = .ok (Tq (apl m x)) := by
  have e1 := fun s0 => ap_el s0 i h.a
  have e2 := fun s0 => ap_el s0 i h.b
  have e3 := fun s0 => ap_el s0 i h.c
  have e4 := fun s0 => ap_el s0 i h.d
  simp only [at_st] at e1 e2 e3 e4
  cases j with
  | t => simp_arith [at_run, at_retF, rtF_new, rtF_lst, rtF_tup, rtF_int, rtF_str, rtF_bl, rtF_non, rtF_frz, rtF_obj, rN_own, at_retOwnN, at_wp, wp_nx, wp_bk, wp_ct, wp_er, wp_rt, Nat.zero_le, F_applied, b_applied, lc_cons, lc_nil, lcS_some, sure_ok, e1, e2, e3, e4, apl]
  | l => simp_arith [at_run, at_retF, rtF_new, rtF_lst, rtF_tup, rtF_int, rtF_str, rtF_bl, rtF_non, rtF_frz, rtF_obj, rN_own, at_retOwnN, at_wp, wp_nx, wp_bk, wp_ct, wp_er, wp_rt, Nat.zero_le, F_applied, b_applied, lc_cons, lc_nil, lcS_some, sure_ok, e1, e2, e3, e4, apl]
def mul (m n : Mx) : Mx := ⟨apl (tr n) m.a, apl (tr n) m.b, apl (tr n) m.c, apl (tr n) m.d⟩
theorem at_lz {f : Ev} {ρ : Rho} : lzE f ρ = ((stE f ρ).bl1 z1).bt fun ds => .ok (.new ds) := by
  unfold lzE Res.bl1 z1 Res.bt
  cases stE f ρ with
  | ok d => simp only [bind_ok]; cases ofO (zs4 d) <;> rfl
  | err x => rfl
  | st => rfl
theorem pr_ok {d : D} {m n : Mx} (j : IsM d m) (h : SM (tr n)) : F_product [d, TM n] = .ok (TM (mul m n)) := by
  have e1 := ap_ok (.l (tr n)) (.t m.a) h
  have e2 := ap_ok (.l (tr n)) (.t m.b) h
  have e3 := ap_ok (.l (tr n)) (.t m.c) h
  have e4 := ap_ok (.l (tr n)) (.t m.d) h
  simp only [tr] at e1 e2 e3 e4
  cases j with
  | t => simp_arith [at_run, at_retF, rtF_new, rtF_lst, rtF_tup, rtF_int, rtF_str, rtF_bl, rtF_non, rtF_frz, rtF_obj, rN_own, at_retOwnN, at_wp, wp_nx, wp_bk, wp_ct, wp_er, wp_rt, Nat.zero_le, F_product, b_product, at_lz, z1_t, zip4_cons, zip4_nil, lc_cons, lc_nil, lcS_some, sure_ok, le_product_0, e1, e2, e3, e4, mul, tr]
  | l => simp_arith [at_run, at_retF, rtF_new, rtF_lst, rtF_tup, rtF_int, rtF_str, rtF_bl, rtF_non, rtF_frz, rtF_obj, rN_own, at_retOwnN, at_wp, wp_nx, wp_bk, wp_ct, wp_er, wp_rt, Nat.zero_le, F_product, b_product, at_lz, z1_t, zip4_cons, zip4_nil, lc_cons, lc_nil, lcS_some, sure_ok, le_product_0, e1, e2, e3, e4, mul, tr]
end DL

namespace DL
open PySem L2
local macro_rules
  | `(tactic| simp_arith [$xs,*]) => `(tactic| simp (config := {failIfUnchanged := false}) only [o0, o1, o2, o3, o4, o5, o6, o7, o8, o9, o10, o11, o12, o13, o14, o15, o16, o17, o18, o19, o20, o21, o22, o23, o24, o25, o26, o27, o28, o29, o30, o31, o32, o33, o34, o35, o36, o37, o38, o39, o40, o41, o42, o43, o44, o45, o46, o47, o48, at_seq, at_skip, at_asg, own_new, at_own, at_drop, at_ret, at_retN, rO_own, at_retOwn, at_if, at_brk, at_cnt, at_raise, ooS_some, unp1_tup, at_unp, setAll_nil, setAll_cons, par1_ok, par1_err, at_par2, frz1_own, frz1_v, at_frz, app0_own, at_app, app1_ok, pop0_own, at_pop, clr0_own, at_clr, aug0_int, aug1_int, at_aug, at_for, for_nil, gnx_some, for_cons, at_gN, at_gU,  at_e1, at_e2, at_st, vO_v, vO_own, at_var, at_c, settle_non, settle_bl, settle_int, settle_str, settle_lst, settle_tup, settle_frz, settle_new, add_int, add_str, add_tup, add_lst_lst, add_lst_new, add_lst_bor, add_new_lst, add_new_new, add_new_bor, add_bor_lst, add_bor_new, add_bor_bor, sub_int, mul_r, mul_l, fdiv_p, mod_p, pow_p, neg_int, lt_int, le_int, gt_int, ge_int, is_bl, ni_bl, is_n_non, ni_n_non, is_n_bl, ni_n_bl, is_n_int, ni_n_int, is_n_str, ni_n_str, is_n_lst, ni_n_lst, is_n_tup, ni_n_tup, is_n_new, ni_n_new, is_n_bor, ni_n_bor, items_lst, len_lst, list_lst, tuple_lst, ix_lst, tru_lst, rev_lst, slice_lst, ty_lst, sum_lst, all_lst, any_lst, items_new, len_new, list_new, tuple_new, ix_new, tru_new, rev_new, slice_new, ty_new, sum_new, all_new, any_new, items_bor, len_bor, list_bor, tuple_bor, ix_bor, tru_bor, rev_bor, slice_bor, ty_bor, sum_bor, all_bor, any_bor, len_tup, len_frz, len_str, list_tup, list_frz, tuple_tup, ix_tup, tru_tup, tru_bl, tru_int, tru_non, slice_tup, slice_frz, revT_tup, int_int, int_bl, abs_int, max_int, min_int, blO_bl, ty_non, ty_bl, ty_int, ty_str, ty_tup, at_tst, at_tst0, nB_ok, nB_err, at_notB, at_andB, at_orB, at_andE, at_orE, nE_ok, nE_err, at_notE, at_ifE, at_nilA, at_consA, tupL_ok, lstL_ok, at_tup, at_lst, callL_0, callL_1, callL_2, callL_3, callL_4, callL_5, at_call, at_chK, at_ch2, at_ch0, chR_ok, at_ch, at_isi, obl_some, isi1_at, kit2_t, kit2_f, at_kitT2, slc_ok, at_slice, at_noO, soO_int, at_someO, sq1_tup, sq1_lst, bl1_ok, bl1_err, bl1_st, at_seqI, rg1_int, at_rng1, rg2_int, rg0_ok, at_rng2, lc0_ok, at_lc, wipe_nil, wipe_cons, at_yes, kitT_int_int, kitT_int_bool, kitT_int_str, kitT_int_list, kitT_int_tuple, kitT_int_none, kitT_bool_int, kitT_bool_bool, kitT_bool_str, kitT_bool_list, kitT_bool_tuple, kitT_bool_none, kitT_tuple_int, kitT_tuple_bool, kitT_tuple_str, kitT_tuple_list, kitT_tuple_tuple, kitT_tuple_none, kitT_list_int, kitT_list_bool, kitT_list_str, kitT_list_list, kitT_list_tuple, kitT_list_none, kitT_str_int, kitT_str_bool, kitT_str_str, kitT_str_list, kitT_str_tuple, kitT_str_none, eqD_int, neD_int, eqD_bl, neD_bl, List.map_cons, List.map_nil, List.replicate, List.cons_append, List.nil_append, List.set_cons_zero, List.set_cons_succ, List.getElem?_cons_zero, List.getElem?_cons_succ, List.length_cons, List.length_nil, List.length_map, List.length_range, bind_ok, bind_err, bind_st, ofO_some, ofO_none, then_ok, then_err, then_st, Option.bind_some, Option.bind_none, Option.map_some, Option.map_none, Nat.zero_add, Nat.reduceAdd, Nat.reduceLeDiff, Nat.reduceEqDiff, ite_true, ite_false, if_true, if_false, reduceIte, Bool.not_true, Bool.not_false, Bool.false_eq_true, decide_eq_true_eq, Bool.not_eq_true, Int.reduceLT, Int.reduceLE, Int.reduceNeg, Int.reduceToNat, Int.reducePow, Int.reduceEq, Int.reduceAdd, Int.reduceSub, Int.reduceMul, Nat.reduceLT, decide_true, decide_false, $xs,*])
local macro_rules
  | `(tactic| simp_arith) => `(tactic| simp (config := {failIfUnchanged := false}) only [o0, o1, o2, o3, o4, o5, o6, o7, o8, o9, o10, o11, o12, o13, o14, o15, o16, o17, o18, o19, o20, o21, o22, o23, o24, o25, o26, o27, o28, o29, o30, o31, o32, o33, o34, o35, o36, o37, o38, o39, o40, o41, o42, o43, o44, o45, o46, o47, o48, at_seq, at_skip, at_asg, own_new, at_own, at_drop, at_ret, at_retN, rO_own, at_retOwn, at_if, at_brk, at_cnt, at_raise, ooS_some, unp1_tup, at_unp, setAll_nil, setAll_cons, par1_ok, par1_err, at_par2, frz1_own, frz1_v, at_frz, app0_own, at_app, app1_ok, pop0_own, at_pop, clr0_own, at_clr, aug0_int, aug1_int, at_aug, at_for, for_nil, gnx_some, for_cons, at_gN, at_gU,  at_e1, at_e2, at_st, vO_v, vO_own, at_var, at_c, settle_non, settle_bl, settle_int, settle_str, settle_lst, settle_tup, settle_frz, settle_new, add_int, add_str, add_tup, add_lst_lst, add_lst_new, add_lst_bor, add_new_lst, add_new_new, add_new_bor, add_bor_lst, add_bor_new, add_bor_bor, sub_int, mul_r, mul_l, fdiv_p, mod_p, pow_p, neg_int, lt_int, le_int, gt_int, ge_int, is_bl, ni_bl, is_n_non, ni_n_non, is_n_bl, ni_n_bl, is_n_int, ni_n_int, is_n_str, ni_n_str, is_n_lst, ni_n_lst, is_n_tup, ni_n_tup, is_n_new, ni_n_new, is_n_bor, ni_n_bor, items_lst, len_lst, list_lst, tuple_lst, ix_lst, tru_lst, rev_lst, slice_lst, ty_lst, sum_lst, all_lst, any_lst, items_new, len_new, list_new, tuple_new, ix_new, tru_new, rev_new, slice_new, ty_new, sum_new, all_new, any_new, items_bor, len_bor, list_bor, tuple_bor, ix_bor, tru_bor, rev_bor, slice_bor, ty_bor, sum_bor, all_bor, any_bor, len_tup, len_frz, len_str, list_tup, list_frz, tuple_tup, ix_tup, tru_tup, tru_bl, tru_int, tru_non, slice_tup, slice_frz, revT_tup, int_int, int_bl, abs_int, max_int, min_int, blO_bl, ty_non, ty_bl, ty_int, ty_str, ty_tup, at_tst, at_tst0, nB_ok, nB_err, at_notB, at_andB, at_orB, at_andE, at_orE, nE_ok, nE_err, at_notE, at_ifE, at_nilA, at_consA, tupL_ok, lstL_ok, at_tup, at_lst, callL_0, callL_1, callL_2, callL_3, callL_4, callL_5, at_call, at_chK, at_ch2, at_ch0, chR_ok, at_ch, at_isi, obl_some, isi1_at, kit2_t, kit2_f, at_kitT2, slc_ok, at_slice, at_noO, soO_int, at_someO, sq1_tup, sq1_lst, bl1_ok, bl1_err, bl1_st, at_seqI, rg1_int, at_rng1, rg2_int, rg0_ok, at_rng2, lc0_ok, at_lc, wipe_nil, wipe_cons, at_yes, kitT_int_int, kitT_int_bool, kitT_int_str, kitT_int_list, kitT_int_tuple, kitT_int_none, kitT_bool_int, kitT_bool_bool, kitT_bool_str, kitT_bool_list, kitT_bool_tuple, kitT_bool_none, kitT_tuple_int, kitT_tuple_bool, kitT_tuple_str, kitT_tuple_list, kitT_tuple_tuple, kitT_tuple_none, kitT_list_int, kitT_list_bool, kitT_list_str, kitT_list_list, kitT_list_tuple, kitT_list_none, kitT_str_int, kitT_str_bool, kitT_str_str, kitT_str_list, kitT_str_tuple, kitT_str_none, eqD_int, neD_int, eqD_bl, neD_bl, List.map_cons, List.map_nil, List.replicate, List.cons_append, List.nil_append, List.set_cons_zero, List.set_cons_succ, List.getElem?_cons_zero, List.getElem?_cons_succ, List.length_cons, List.length_nil, List.length_map, List.length_range, bind_ok, bind_err, bind_st, ofO_some, ofO_none, then_ok, then_err, then_st, Option.bind_some, Option.bind_none, Option.map_some, Option.map_none, Nat.zero_add, Nat.reduceAdd, Nat.reduceLeDiff, Nat.reduceEqDiff, ite_true, ite_false, if_true, if_false, reduceIte, Bool.not_true, Bool.not_false, Bool.false_eq_true, decide_eq_true_eq, Bool.not_eq_true, Int.reduceLT, Int.reduceLE, Int.reduceNeg, Int.reduceToNat, Int.reducePow, Int.reduceEq, Int.reduceAdd, Int.reduceSub, Int.reduceMul, Nat.reduceLT, decide_true, decide_false])
/-! bounds -/
structure Bd (B : Int) (q : Qd) : Prop where
  b1 : -B ≤ q.1 ∧ q.1 ≤ B
  b2 : -B ≤ q.2.1 ∧ q.2.1 ≤ B
  b3 : -B ≤ q.2.2.1 ∧ q.2.2.1 ≤ B
  b4 : -B ≤ q.2.2.2 ∧ q.2.2.2 ≤ B
theorem QF.bdq {B : Int} {q : Qd} (h : QF B q) : Bd B q := ⟨h.b1, h.b2, h.b3, h.b4⟩
theorem Bd.le {B C : Int} {q : Qd} (h : Bd B q) (hBC : B ≤ C) : Bd C q := ⟨by have := h.b1; omega, by have := h.b2; omega, by have := h.b3; omega, by have := h.b4; omega⟩
theorem Bd.exq {B : Int} {q : Qd} (h : Bd B q) {n : Int} (hn : 1 ≤ n ∧ n ≤ 4) : Bd (7 * B) (exq n q) := by
  obtain ⟨a, b, c, d⟩ := q
  obtain ⟨h1, h2, h3, h4⟩ := h
  dsimp only at h1 h2 h3 h4
  rcases n4 hn with rfl | rfl | rfl | rfl
  · show Bd (7 * B) (2 * (a + b + c + d) - 3 * a, b, c, d)
    refine ⟨?_, ?_, ?_, ?_⟩ <;> dsimp only <;> omega
  · show Bd (7 * B) (a, 2 * (a + b + c + d) - 3 * b, c, d)
    refine ⟨?_, ?_, ?_, ?_⟩ <;> dsimp only <;> omega
  · show Bd (7 * B) (a, b, 2 * (a + b + c + d) - 3 * c, d)
    refine ⟨?_, ?_, ?_, ?_⟩ <;> dsimp only <;> omega
  · show Bd (7 * B) (a, b, c, 2 * (a + b + c + d) - 3 * d)
    refine ⟨?_, ?_, ?_, ?_⟩ <;> dsimp only <;> omega
theorem Bd.last : ∀ {W : List Int} {B : Int} {q : Qd}, W4 W → Bd B q → Bd (7 ^ W.length * B) (lastq W q)
  | [], B, q, _, h => by simpa [lastq] using h
  | n :: W, B, q, w4, h => by
    have := Bd.last (W := W) (fun y m => w4 y (List.mem_cons_of_mem _ m)) (h.exq (w4 n (List.mem_cons_self ..)))
    rw [List.length_cons, Int.pow_succ, Int.mul_assoc]
    exact this
theorem pow7 {n k : Nat} (h : n ≤ k) : (7 : Int) ^ n ≤ 7 ^ k := by
  induction h with
  | refl => exact Int.le_refl _
  | step _ ih =>
    rw [Int.pow_succ]
    have : (0 : Int) < 7 ^ n := Int.pow_pos (by decide)
    omega
theorem Bd.sq {B : Int} {q : Qd} (h : Bd B q) (hB : B < 18446744073709551616) : Sq q := by
  obtain ⟨h1, h2, h3, h4⟩ := h
  exact ⟨by omega, by omega, by omega, by omega, by omega, by omega, by omega, by omega⟩
theorem fn_int {B i : Int} (h : -B ≤ i ∧ i ≤ B) (hB : B < 633825300114114700748351602688) : Fn 100 0 (.int i) := Fn.int' (b := 98) (by
    have : (2 : Nat) ^ (98 + 1) = 633825300114114700748351602688 := by decide
    rw [this]; omega) (by decide)
theorem Bd.fn {B : Int} {q : Qd} (h : Bd B q) (hB : B < 633825300114114700748351602688) : Fn 411 1 (Tq q) := by
  obtain ⟨c3, c4, c5, c6⟩ := h
  refine Fn.tup (B := 100) (k := 0) (n := 4) (fun d hd => ?_) (by simp)
  simp only [List.mem_cons, List.not_mem_nil, or_false] at hd
  rcases hd with rfl | rfl | rfl | rfl
  · exact fn_int c3 hB
  · exact fn_int c4 hB
  · exact fn_int c5 hB
  · exact fn_int c6 hB
structure BM (B : Int) (m : Mx) : Prop where
  a : Bd B m.a
  b : Bd B m.b
  c : Bd B m.c
  d : Bd B m.d
theorem BM.tr {B : Int} {m : Mx} (h : BM B m) : BM B (tr m) := ⟨⟨h.a.b1, h.b.b1, h.c.b1, h.d.b1⟩, ⟨h.a.b2, h.b.b2, h.c.b2, h.d.b2⟩, ⟨h.a.b3, h.b.b3, h.c.b3, h.d.b3⟩, ⟨h.a.b4, h.b.b4, h.c.b4, h.d.b4⟩⟩
theorem BM.sm {B : Int} {m : Mx} (h : BM B m) (hB : B < 18446744073709551616) : SM m := ⟨h.a.sq hB, h.b.sq hB, h.c.sq hB, h.d.sq hB⟩
theorem BM.fn {B : Int} {m : Mx} (h : BM B m) (hB : B < 633825300114114700748351602688) : Fn 1655 2 (TM m) := by
  refine Fn.tup (B := 411) (k := 1) (n := 4) (fun d hd => ?_) (by simp)
  simp only [List.mem_cons, List.not_mem_nil, or_false] at hd
  rcases hd with rfl | rfl | rfl | rfl
  · exact h.a.fn hB
  · exact h.b.fn hB
  · exact h.c.fn hB
  · exact h.d.fn hB
theorem mul_bd {A B x y : Int} (hx : -A ≤ x ∧ x ≤ A) (hy : -B ≤ y ∧ y ≤ B) : -(A * B) ≤ x * y ∧ x * y ≤ A * B := by
  have hA : 0 ≤ A := by omega
  have hB : 0 ≤ B := by omega
  have h1 : 0 ≤ (A - x) * (B - y) := Int.mul_nonneg (by omega) (by omega)
  have h2 : 0 ≤ (A + x) * (B + y) := Int.mul_nonneg (by omega) (by omega)
  have h3 : 0 ≤ (A - x) * (B + y) := Int.mul_nonneg (by omega) (by omega)
  have h4 : 0 ≤ (A + x) * (B - y) := Int.mul_nonneg (by omega) (by omega)
  have e1 : (A - x) * (B - y) = A * B - A * y - x * B + x * y := by grind
  have e2 : (A + x) * (B + y) = A * B + A * y + x * B + x * y := by grind
  have e3 : (A - x) * (B + y) = A * B + A * y - x * B - x * y := by grind
  have e4 : (A + x) * (B - y) = A * B - A * y + x * B - x * y := by grind
  omega
theorem dot_bd {A B : Int} {r x : Qd} (h : Bd A r) (k : Bd B x) : -(4 * (A * B)) ≤ dot r x ∧ dot r x ≤ 4 * (A * B) := by
  have h1 := mul_bd h.b1 k.b1
  have h2 := mul_bd h.b2 k.b2
  have h3 := mul_bd h.b3 k.b3
  have h4 := mul_bd h.b4 k.b4
  unfold dot
  omega
theorem BM.apl {A B : Int} {m : Mx} {x : Qd} (h : BM A m) (k : Bd B x) : Bd (4 * (A * B)) (apl m x) := ⟨dot_bd h.a k, dot_bd h.b k, dot_bd h.c k, dot_bd h.d k⟩
theorem BM.mul {A B : Int} {m n : Mx} (h : BM A m) (k : BM B n) : BM (4 * (B * A)) (mul m n) := ⟨k.tr.apl h.a, k.tr.apl h.b, k.tr.apl h.c, k.tr.apl h.d⟩
theorem dot_comm (r x : Qd) : dot r x = dot x r := by
  unfold dot
  rw [Int.mul_comm r.1, Int.mul_comm r.2.1, Int.mul_comm r.2.2.1, Int.mul_comm r.2.2.2]
/-! the matrix of a word -/
def u1 : Qd := (1, 0, 0, 0)
def u2 : Qd := (0, 1, 0, 0)
def u3 : Qd := (0, 0, 1, 0)
def u4 : Qd := (0, 0, 0, 1)
/-- its columns, its rows -/
def cw (W : List Int) : Mx := ⟨lastq W u1, lastq W u2, lastq W u3, lastq W u4⟩
def mo (W : List Int) : Mx := tr (cw W)
theorem tr_tr (m : Mx) : tr (tr m) = m := rfl
theorem mo_ok (C : Addr) {d : D} {W : List Int} (i : IsW d W) (h : W4 W) : F_matrix_of C [d] = .ok (TM (mo W)) := by
  have e : F_rows_at C [.tup [.tup [.int 1, .int 0, .int 0, .int 0], .tup [.int 0, .int 1, .int 0, .int 0], .tup [.int 0, .int 0, .int 1, .int 0], .tup [.int 0, .int 0, .int 0, .int 1]], d] = .ok (TM (mo W)) := ratC_ok C i h [u1, u2, u3, u4] (by decide)
  have hs := i.settle
  simp_arith [at_run, at_retF, rtF_new, rtF_lst, rtF_tup, rtF_int, rtF_str, rtF_bl, rtF_non, rtF_frz, rtF_obj, rN_own, at_retOwnN, at_wp, wp_nx, wp_bk, wp_ct, wp_er, wp_rt, Nat.zero_le, F_matrix_of, b_matrix_of, hs, e]
theorem lmx_loop (s0 s1 s2 s5 : Slot) : ∀ (W : List Int), W4 W → ∀ (q : Qd), forO (gN 4) lb__law_matrix_0 (il W) [s0, s1, s2, .v (Tq q), .un, s5] = .nx [s0, s1, s2, .v (Tq (lastq W q)), .un, s5]
  | [], _, q => rfl
  | n :: W, h, q => by
    have ih := lmx_loop s0 s1 s2 s5 W (fun y m => h y (List.mem_cons_of_mem _ m)) (exq n q)
    have e := lx_ok q (h n (List.mem_cons_self ..))
    have e2 : lastq (n :: W) q = lastq W (exq n q) := rfl
    rw [il_cons, e2, ← ih]
    simp_arith [at_run, at_retF, rtF_new, rtF_lst, rtF_tup, rtF_int, rtF_str, rtF_bl, rtF_non, rtF_frz, rtF_obj, rN_own, at_retOwnN, at_wp, wp_nx, wp_bk, wp_ct, wp_er, wp_rt, Nat.zero_le, lb__law_matrix_0, e]
theorem rng4 : rngI 0 4 = [.int 0, .int 1, .int 2, .int 3] := id rfl
theorem lmx_ok {W : List Int} (h : W4 W) : F__law_matrix [.tup (il W)] = .ok (TM (mo W)) := by
  have l := fun s0 s1 s2 s5 q => lmx_loop s0 s1 s2 s5 W h q
  have l1 := fun s0 s1 s2 s5 => l s0 s1 s2 s5 u1
  have l2 := fun s0 s1 s2 s5 => l s0 s1 s2 s5 u2
  have l3 := fun s0 s1 s2 s5 => l s0 s1 s2 s5 u3
  have l4 := fun s0 s1 s2 s5 => l s0 s1 s2 s5 u4
  simp only [u1, u2, u3, u4] at l1 l2 l3 l4
  simp_arith [at_run, at_retF, rtF_new, rtF_lst, rtF_tup, rtF_int, rtF_str, rtF_bl, rtF_non, rtF_frz, rtF_obj, rN_own, at_retOwnN, at_wp, wp_nx, wp_bk, wp_ct, wp_er, wp_rt, Nat.zero_le, F__law_matrix, b__law_matrix, rng4, lb__law_matrix_1, le__law_matrix_0, lc_cons, lc_nil, lcS_some, sure_ok, Int.reduceBEq, l1, l2, l3, l4, le__law_matrix_1, le__law_matrix_2, at4_0, at4_1, at4_2, at4_3, app1_ok, mo, tr, cw, u1, u2, u3, u4]
theorem exq_lin {n : Int} (hn : 1 ≤ n ∧ n ≤ 4) (m : Mx) (x : Qd) : exq n (apl (tr m) x) = apl (tr ⟨exq n m.a, exq n m.b, exq n m.c, exq n m.d⟩) x := by
  obtain ⟨⟨a1, a2, a3, a4⟩, ⟨b1, b2, b3, b4⟩, ⟨c1, c2, c3, c4⟩, ⟨d1, d2, d3, d4⟩⟩ := m
  obtain ⟨x1, x2, x3, x4⟩ := x
  rcases n4 hn with rfl | rfl | rfl | rfl
  all_goals
    simp only [exq, apl, tr, dot, if_true, if_false, Int.reduceEq, Prod.mk.injEq]
    repeat' apply And.intro
    all_goals grind
theorem lastq_lin : ∀ {W : List Int}, W4 W → ∀ (m : Mx) (x : Qd), lastq W (apl (tr m) x) = apl (tr ⟨lastq W m.a, lastq W m.b, lastq W m.c, lastq W m.d⟩) x
  | [], _, m, x => rfl
  | n :: W, h, m, x => by
    have ih := lastq_lin (W := W) (fun y k => h y (List.mem_cons_of_mem _ k)) ⟨exq n m.a, exq n m.b, exq n m.c, exq n m.d⟩ x
    show lastq W (exq n _) = _
    rw [exq_lin (h n (List.mem_cons_self ..)), ih]
    rfl
theorem mo_apl {W : List Int} (h : W4 W) (x : Qd) : apl (mo W) x = lastq W x := by
  have := lastq_lin h ⟨u1, u2, u3, u4⟩ x
  have e : apl (tr ⟨u1, u2, u3, u4⟩) x = x := by
    obtain ⟨x1, x2, x3, x4⟩ := x
    simp [apl, tr, dot, u1, u2, u3, u4]
  rw [e] at this
  exact this.symm
theorem mo_mul {V W : List Int} (h : W4 W) : mul (mo W) (mo V) = mo (V ++ W) := by
  have e : ∀ q, lastq (V ++ W) q = apl (mo W) (lastq V q) := fun q => by
    rw [mo_apl h]
    unfold lastq
    rw [List.foldl_append]
  have k : cw (V ++ W) = ⟨apl (mo W) (cw V).a, apl (mo W) (cw V).b, apl (mo W) (cw V).c, apl (mo W) (cw V).d⟩ := by
    show (⟨lastq _ u1, lastq _ u2, lastq _ u3, lastq _ u4⟩ : Mx) = _
    rw [e, e, e, e]; rfl
  show (⟨apl (cw V) (mo W).a, apl (cw V) (mo W).b, apl (cw V) (mo W).c, apl (cw V) (mo W).d⟩ : Mx) = tr (cw (V ++ W))
  rw [k]
  simp only [apl, tr, Mx.mk.injEq, Prod.mk.injEq]
  refine ⟨⟨?_, ?_, ?_, ?_⟩, ⟨?_, ?_, ?_, ?_⟩, ⟨?_, ?_, ?_, ?_⟩, ⟨?_, ?_, ?_, ?_⟩⟩ <;> exact dot_comm _ _
theorem mo_bd {W : List Int} (h : W4 W) {k : Nat} (hk : W.length ≤ k) : BM (7 ^ k) (mo W) := by
  have b : ∀ q : Qd, Bd 1 q → Bd (7 ^ k) (lastq W q) := fun q hq => (hq.last h).le (by rw [Int.mul_one]; exact pow7 hk)
  have : BM (7 ^ k) (cw W) := ⟨b u1 (by constructor <;> decide), b u2 (by constructor <;> decide), b u3 (by constructor <;> decide), b u4 (by constructor <;> decide)⟩
  exact this.tr
end DL


namespace DL
open PySem L2
--LAYER DL34
/-! ### the text by places -/
def top (i : Nat) : Stmt := PySem.Challenge.pw_fourtouch_k16_matrices_of_words.main.body.getD i (.Pass ⟨0, 0, 0, 0⟩)
abbrev s_is_quadruple : Stmt := top 12
abbrev s_check_quadruple : Stmt := top 13
abbrev s_is_place : Stmt := top 8
abbrev s_check_word : Stmt := top 9
abbrev s_exchanged_numbers : Stmt := top 14
abbrev s_numbers_at : Stmt := top 15
abbrev s_curvatures_at : Stmt := top 16
abbrev s_made_row : Stmt := top 5
abbrev s_exchanged_rows : Stmt := top 6
abbrev s_rows_at : Stmt := top 11
abbrev s_matrix_of : Stmt := top 19
abbrev s_applied : Stmt := top 20
abbrev s_product : Stmt := top 21
abbrev s__law_row : Stmt := top 23
abbrev s__law_numbers : Stmt := top 24
abbrev s__law_word : Stmt := top 25
abbrev s__law_exchange : Stmt := top 27
abbrev s__law_quadruple : Stmt := top 28
abbrev s__law_matrix : Stmt := top 29
abbrev s_law : Stmt := top 30
/-! ### what the top has made -/
structure Txt (K : PySem.W.Frag) (mg : Str → Option Value) (C_InvalidFour C_InvalidWord : Addr) : Prop where
  z_tuple : mg "tuple" = none
  z_zip : mg "zip" = none
  z_sum : mg "sum" = none
  z_isinstance : mg "isinstance" = none
  z_bool : mg "bool" = none
  z_int : mg "int" = none
  z_list : mg "list" = none
  z_len : mg "len" = none
  z_abs : mg "abs" = none
  z_range : mg "range" = none
  z_max : mg "max" = none
  z_min : mg "min" = none
  z_repr : mg "repr" = none
  a_is_quadruple : At K mg "is_quadruple" s_is_quadruple ["curvatures"]
  a_check_quadruple : At K mg "check_quadruple" s_check_quadruple ["curvatures"]
  a_is_place : At K mg "is_place" s_is_place ["number"]
  a_check_word : At K mg "check_word" s_check_word ["word"]
  a_exchanged_numbers : At K mg "exchanged_numbers" s_exchanged_numbers ["numbers", "number"]
  a_numbers_at : At K mg "numbers_at" s_numbers_at ["numbers", "word"]
  a_curvatures_at : At K mg "curvatures_at" s_curvatures_at ["curvatures", "word"]
  a_made_row : At K mg "made_row" s_made_row ["rows", "number"]
  a_exchanged_rows : At K mg "exchanged_rows" s_exchanged_rows ["rows", "number"]
  a_rows_at : At K mg "rows_at" s_rows_at ["rows", "word"]
  a_matrix_of : At K mg "matrix_of" s_matrix_of ["word"]
  a_applied : At K mg "applied" s_applied ["matrix", "numbers"]
  a_product : At K mg "product" s_product ["one", "other"]
  a__law_row : At K mg "_law_row" s__law_row ["cell", "many"]
  a__law_numbers : At K mg "_law_numbers" s__law_numbers ["script", "many"]
  a__law_word : At K mg "_law_word" s__law_word ["numbers", "at", "many"]
  a__law_exchange : At K mg "_law_exchange" s__law_exchange ["four", "letter"]
  a__law_quadruple : At K mg "_law_quadruple" s__law_quadruple ["numbers", "at"]
  a__law_matrix : At K mg "_law_matrix" s__law_matrix ["word"]
  a_law : At K mg "law" s_law ["script"]
  k_IDENTITY : Gc K mg "IDENTITY" (.tup [.tup [.int 1, .int 0, .int 0, .int 0], .tup [.int 0, .int 1, .int 0, .int 0], .tup [.int 0, .int 0, .int 1, .int 0], .tup [.int 0, .int 0, .int 0, .int 1]])
  e_InvalidFour : Err K mg "InvalidFour" C_InvalidFour
  e_InvalidWord : Err K mg "InvalidWord" C_InvalidWord
  g_InvalidFour : mg "InvalidFour" = some (.ref C_InvalidFour)
  g_InvalidWord : mg "InvalidWord" = some (.ref C_InvalidWord)
section
variable {P : Program} {w : World} {K : PySem.W.Frag} {mg : Str → Option Value} {base : Heap} {C_InvalidFour C_InvalidWord : Addr}
theorem sc_is_quadruple : FnScope ["curvatures", "total", "number"] ["curvatures"] (defScope s_is_quadruple) := ⟨rfl, rfl, rfl, by decide +kernel, rfl, by decide +kernel, by decide +kernel⟩
theorem dd_is_quadruple (T : Txt K mg C_InvalidFour C_InvalidWord) : Def P w K mg base "is_quadruple" 1 1 (F_is_quadruple) :=
  Def.of (k := 0) T.a_is_quadruple sc_is_quadruple rfl (fun f cdv A outer s H E hr gd => by
    have nd := sc_is_quadruple.nd
    have tk := takes_of (X := cxOf (L2.CX P w) P w K mg base ["curvatures", "total", "number"] "is_quadruple" (defScope s_is_quadruple) f cdv A outer s H E) rfl rfl rfl rfl
    have hp := passes_of (X := cxOf (L2.CX P w) P w K mg base ["curvatures", "total", "number"] "is_quadruple" (defScope s_is_quadruple) f cdv A outer s H E) rfl
    exact s_cons (s_if (t_ne hr.units (d_len T.z_len (dv 0)) (d_int))
      (s_one (s_ret (d_bl)))
      (s_nil))
      (s_cons (s_asg (i := 1) nd rfl (by first | exact Or.inl rfl | exact Or.inr rfl) (d_sumA rfl T.z_sum (dv 0)))
      (s_one (s_ret (d_and (d_gt (dv 1) (d_int)) (d_one (d_eq hr.units (d_mul (dv 1) (dv 1)) (d_mul (d_int) (d_sumA rfl T.z_sum (d_lc (own := [("number", 2)]) rfl nd (i_seq (dv 0)) (blkOk_by (show blkC ["curvatures", "total", "number"] (defScope s_is_quadruple) _ _ = true by decide +kernel)) gN_ok gin_name (fun _ _ _ _ _ => pg_name (i := 2) nd rfl (by first | exact Or.inl rfl | exact Or.inr rfl)) (fun _ _ _ _ _ => pts_none _) (fun _ _ _ _ _ => d_mul (dv 2) (dv 2))))))))))))
theorem sc_check_quadruple : FnScope ["curvatures"] ["curvatures"] (defScope s_check_quadruple) := ⟨rfl, rfl, rfl, by decide +kernel, rfl, by decide +kernel, by decide +kernel⟩
theorem dd_check_quadruple (T : Txt K mg C_InvalidFour C_InvalidWord) : Def P w K mg base "check_quadruple" 2 1 (F_check_quadruple C_InvalidFour) :=
  Def.of (k := 1) T.a_check_quadruple sc_check_quadruple rfl (fun f cdv A outer s H E hr gd => by
    have nd := sc_check_quadruple.nd
    have tk := takes_of (X := cxOf (L2.CX P w) P w K mg base ["curvatures"] "check_quadruple" (defScope s_check_quadruple) f cdv A outer s H E) rfl rfl rfl rfl
    have hp := passes_of (X := cxOf (L2.CX P w) P w K mg base ["curvatures"] "check_quadruple" (defScope s_check_quadruple) f cdv A outer s H E) rfl
    exact s_one (s_if (t_not (t_val (d_call (dd_is_quadruple T) hr (by decide) gd tk (a_cons (dv 0) (a_nil)))))
      (s_one (s_raise rfl tk (pmk_err T.e_InvalidFour)))
      (s_nil)))
theorem sc_is_place : FnScope ["number"] ["number"] (defScope s_is_place) := ⟨rfl, rfl, rfl, by decide +kernel, rfl, by decide +kernel, by decide +kernel⟩
theorem dd_is_place (T : Txt K mg C_InvalidFour C_InvalidWord) : Def P w K mg base "is_place" 1 1 (F_is_place) :=
  Def.of (k := 0) T.a_is_place sc_is_place rfl (fun f cdv A outer s H E hr gd => by
    have nd := sc_is_place.nd
    have tk := takes_of (X := cxOf (L2.CX P w) P w K mg base ["number"] "is_place" (defScope s_is_place) f cdv A outer s H E) rfl rfl rfl rfl
    have hp := passes_of (X := cxOf (L2.CX P w) P w K mg base ["number"] "is_place" (defScope s_is_place) f cdv A outer s H E) rfl
    exact s_one (s_ret (d_and (d_isi (T1 := "int") T.z_isinstance T.z_int (by decide +kernel) (dv 0)) (d_and (d_not (d_isi (T1 := "bool") T.z_isinstance T.z_bool (by decide +kernel) (dv 0))) (d_one (d_lele (d_int) (dv 0) (d_int)))))))
theorem sc_check_word : FnScope ["word", "number"] ["word"] (defScope s_check_word) := ⟨rfl, rfl, rfl, by decide +kernel, rfl, by decide +kernel, by decide +kernel⟩
theorem dd_check_word (T : Txt K mg C_InvalidFour C_InvalidWord) : Def P w K mg base "check_word" 2 1 (F_check_word C_InvalidWord) :=
  Def.of (k := 1) T.a_check_word sc_check_word rfl (fun f cdv A outer s H E hr gd => by
    have nd := sc_check_word.nd
    have tk := takes_of (X := cxOf (L2.CX P w) P w K mg base ["word", "number"] "check_word" (defScope s_check_word) f cdv A outer s H E) rfl rfl rfl rfl
    have hp := passes_of (X := cxOf (L2.CX P w) P w K mg base ["word", "number"] "check_word" (defScope s_check_word) f cdv A outer s H E) rfl
    exact s_cons (s_if (t_not (t_val (d_isi2 (T1 := "tuple") (T2 := "list") T.z_isinstance T.z_tuple (by decide +kernel) T.z_list (by decide +kernel) (dv 0))))
      (s_one (s_raise rfl tk (pmk_err T.e_InvalidWord)))
      (s_nil))
      (s_one (s_wp (vs := [1]) (s_for hp rfl (i_seq (dv 0)) (pg_name (i := 1) nd rfl (by first | exact Or.inl rfl | exact Or.inr rfl)) gN_ok
      (ss_wp (vs := [1]) (s_one (s_if (t_not (t_val (d_call (dd_is_place T) hr (by decide) gd tk (a_cons (dv 1) (a_nil)))))
      (s_one (s_raise rfl tk (pmk_err T.e_InvalidWord)))
      (s_nil))))))))
theorem sc_exchanged_numbers : FnScope ["numbers", "number", "made"] ["numbers", "number"] (defScope s_exchanged_numbers) := ⟨rfl, rfl, rfl, by decide +kernel, rfl, by decide +kernel, by decide +kernel⟩
theorem dd_exchanged_numbers (T : Txt K mg C_InvalidFour C_InvalidWord) : Def P w K mg base "exchanged_numbers" 1 2 (F_exchanged_numbers) :=
  Def.of (k := 0) T.a_exchanged_numbers sc_exchanged_numbers rfl (fun f cdv A outer s H E hr gd => by
    have nd := sc_exchanged_numbers.nd
    have tk := takes_of (X := cxOf (L2.CX P w) P w K mg base ["numbers", "number", "made"] "exchanged_numbers" (defScope s_exchanged_numbers) f cdv A outer s H E) rfl rfl rfl rfl
    have hp := passes_of (X := cxOf (L2.CX P w) P w K mg base ["numbers", "number", "made"] "exchanged_numbers" (defScope s_exchanged_numbers) f cdv A outer s H E) rfl
    exact s_cons (s_asg (i := 2) nd rfl (by first | exact Or.inl rfl | exact Or.inr rfl) (d_sub (d_mul (d_int) (d_sumA rfl T.z_sum (dv 0))) (d_mul (d_int) (d_ix (dv 0) (d_sub (dv 1) (d_int))))))
      (s_one (s_retF (d_add (d_add (d_slice (dv 0) (o_none) (o_some (d_sub (dv 1) (d_int)))) (d_tup (a_cons (dv 2) (a_nil)))) (d_slice (dv 0) (o_some (dv 1)) (o_none))))))
theorem sc_numbers_at : FnScope ["numbers", "word", "number"] ["numbers", "word"] (defScope s_numbers_at) := ⟨rfl, rfl, rfl, by decide +kernel, rfl, by decide +kernel, by decide +kernel⟩
theorem dd_numbers_at (T : Txt K mg C_InvalidFour C_InvalidWord) : Def P w K mg base "numbers_at" 3 2 (F_numbers_at C_InvalidWord) :=
  Def.of (k := 2) T.a_numbers_at sc_numbers_at rfl (fun f cdv A outer s H E hr gd => by
    have nd := sc_numbers_at.nd
    have tk := takes_of (X := cxOf (L2.CX P w) P w K mg base ["numbers", "word", "number"] "numbers_at" (defScope s_numbers_at) f cdv A outer s H E) rfl rfl rfl rfl
    have hp := passes_of (X := cxOf (L2.CX P w) P w K mg base ["numbers", "word", "number"] "numbers_at" (defScope s_numbers_at) f cdv A outer s H E) rfl
    exact s_cons (s_expr (d_call (dd_check_word T) hr (by decide) gd tk (a_cons (dv 1) (a_nil))))
      (s_cons (s_wp (vs := [2]) (s_for hp rfl (i_seq (dv 1)) (pg_name (i := 2) nd rfl (by first | exact Or.inl rfl | exact Or.inr rfl)) gN_ok
      (ss_wp (vs := [2]) (s_one (s_asg (i := 0) nd rfl (by first | exact Or.inl rfl | exact Or.inr rfl) (d_call (dd_exchanged_numbers T) hr (by decide) gd tk (a_cons (dv 0) (a_cons (dv 2) (a_nil)))))))))
      (s_one (s_ret (dv 0)))))
theorem sc_curvatures_at : FnScope ["curvatures", "word"] ["curvatures", "word"] (defScope s_curvatures_at) := ⟨rfl, rfl, rfl, by decide +kernel, rfl, by decide +kernel, by decide +kernel⟩
theorem dd_curvatures_at (T : Txt K mg C_InvalidFour C_InvalidWord) : Def P w K mg base "curvatures_at" 4 2 (F_curvatures_at_2 C_InvalidFour C_InvalidWord) :=
  Def.of (k := 3) T.a_curvatures_at sc_curvatures_at rfl (fun f cdv A outer s H E hr gd => by
    have nd := sc_curvatures_at.nd
    have tk := takes_of (X := cxOf (L2.CX P w) P w K mg base ["curvatures", "word"] "curvatures_at" (defScope s_curvatures_at) f cdv A outer s H E) rfl rfl rfl rfl
    have hp := passes_of (X := cxOf (L2.CX P w) P w K mg base ["curvatures", "word"] "curvatures_at" (defScope s_curvatures_at) f cdv A outer s H E) rfl
    exact s_cons (s_expr (d_call (dd_check_quadruple T) hr (by decide) gd tk (a_cons (dv 0) (a_nil))))
      (s_one (s_retF (d_call (dd_numbers_at T) hr (by decide) gd tk (a_cons (d_tuplec T.z_tuple (dv 0)) (a_cons (dv 1) (a_nil)))))))
theorem sc_made_row : FnScope ["rows", "number", "parts"] ["rows", "number"] (defScope s_made_row) := ⟨rfl, rfl, rfl, by decide +kernel, rfl, by decide +kernel, by decide +kernel⟩
theorem dd_made_row (T : Txt K mg C_InvalidFour C_InvalidWord) : Def P w K mg base "made_row" 1 2 (F_made_row) :=
  Def.of (k := 0) T.a_made_row sc_made_row rfl (fun f cdv A outer s H E hr gd => by
    have nd := sc_made_row.nd
    have tk := takes_of (X := cxOf (L2.CX P w) P w K mg base ["rows", "number", "parts"] "made_row" (defScope s_made_row) f cdv A outer s H E) rfl rfl rfl rfl
    have hp := passes_of (X := cxOf (L2.CX P w) P w K mg base ["rows", "number", "parts"] "made_row" (defScope s_made_row) f cdv A outer s H E) rfl
    exact s_one (s_retF (d_tuplec T.z_tuple (d_lc (own := [("parts", 2)]) rfl nd (i_zipStar T.z_zip (dv 0)) (blkOk_by (show blkC ["rows", "number", "parts"] (defScope s_made_row) _ _ = true by decide +kernel)) gN_ok gin_name (fun _ _ _ _ _ => pg_name (i := 2) nd rfl (by first | exact Or.inl rfl | exact Or.inr rfl)) (fun _ _ _ _ _ => pts_none _) (fun _ _ _ _ _ => d_sub (d_mul (d_int) (d_sumA rfl T.z_sum (dv 2))) (d_mul (d_int) (d_ix (dv 2) (d_sub (dv 1) (d_int)))))))))
theorem sc_exchanged_rows : FnScope ["rows", "number"] ["rows", "number"] (defScope s_exchanged_rows) := ⟨rfl, rfl, rfl, by decide +kernel, rfl, by decide +kernel, by decide +kernel⟩
theorem dd_exchanged_rows (T : Txt K mg C_InvalidFour C_InvalidWord) : Def P w K mg base "exchanged_rows" 2 2 (F_exchanged_rows) :=
  Def.of (k := 1) T.a_exchanged_rows sc_exchanged_rows rfl (fun f cdv A outer s H E hr gd => by
    have nd := sc_exchanged_rows.nd
    have tk := takes_of (X := cxOf (L2.CX P w) P w K mg base ["rows", "number"] "exchanged_rows" (defScope s_exchanged_rows) f cdv A outer s H E) rfl rfl rfl rfl
    have hp := passes_of (X := cxOf (L2.CX P w) P w K mg base ["rows", "number"] "exchanged_rows" (defScope s_exchanged_rows) f cdv A outer s H E) rfl
    exact s_one (s_retF (d_add (d_add (d_slice (dv 0) (o_none) (o_some (d_sub (dv 1) (d_int)))) (d_tup (a_cons (d_call (dd_made_row T) hr (by decide) gd tk (a_cons (dv 0) (a_cons (dv 1) (a_nil)))) (a_nil)))) (d_slice (dv 0) (o_some (dv 1)) (o_none)))))
theorem sc_rows_at : FnScope ["rows", "word", "number"] ["rows", "word"] (defScope s_rows_at) := ⟨rfl, rfl, rfl, by decide +kernel, rfl, by decide +kernel, by decide +kernel⟩
theorem dd_rows_at (T : Txt K mg C_InvalidFour C_InvalidWord) : Def P w K mg base "rows_at" 3 2 (F_rows_at C_InvalidWord) :=
  Def.of (k := 2) T.a_rows_at sc_rows_at rfl (fun f cdv A outer s H E hr gd => by
    have nd := sc_rows_at.nd
    have tk := takes_of (X := cxOf (L2.CX P w) P w K mg base ["rows", "word", "number"] "rows_at" (defScope s_rows_at) f cdv A outer s H E) rfl rfl rfl rfl
    have hp := passes_of (X := cxOf (L2.CX P w) P w K mg base ["rows", "word", "number"] "rows_at" (defScope s_rows_at) f cdv A outer s H E) rfl
    exact s_cons (s_expr (d_call (dd_check_word T) hr (by decide) gd tk (a_cons (dv 1) (a_nil))))
      (s_cons (s_wp (vs := [2]) (s_for hp rfl (i_seq (dv 1)) (pg_name (i := 2) nd rfl (by first | exact Or.inl rfl | exact Or.inr rfl)) gN_ok
      (ss_wp (vs := [2]) (s_one (s_asg (i := 0) nd rfl (by first | exact Or.inl rfl | exact Or.inr rfl) (d_call (dd_exchanged_rows T) hr (by decide) gd tk (a_cons (dv 0) (a_cons (dv 2) (a_nil)))))))))
      (s_one (s_ret (dv 0)))))
theorem sc_matrix_of : FnScope ["word"] ["word"] (defScope s_matrix_of) := ⟨rfl, rfl, rfl, by decide +kernel, rfl, by decide +kernel, by decide +kernel⟩
theorem dd_matrix_of (T : Txt K mg C_InvalidFour C_InvalidWord) : Def P w K mg base "matrix_of" 4 1 (F_matrix_of C_InvalidWord) :=
  Def.of (k := 3) T.a_matrix_of sc_matrix_of rfl (fun f cdv A outer s H E hr gd => by
    have nd := sc_matrix_of.nd
    have tk := takes_of (X := cxOf (L2.CX P w) P w K mg base ["word"] "matrix_of" (defScope s_matrix_of) f cdv A outer s H E) rfl rfl rfl rfl
    have hp := passes_of (X := cxOf (L2.CX P w) P w K mg base ["word"] "matrix_of" (defScope s_matrix_of) f cdv A outer s H E) rfl
    exact s_one (s_retF (d_call (dd_rows_at T) hr (by decide) gd tk (a_cons (d_glob T.k_IDENTITY) (a_cons (dv 0) (a_nil))))))
theorem sc_applied : FnScope ["matrix", "numbers", "row", "part", "number"] ["matrix", "numbers"] (defScope s_applied) := ⟨rfl, rfl, rfl, by decide +kernel, rfl, by decide +kernel, by decide +kernel⟩
theorem dd_applied (T : Txt K mg C_InvalidFour C_InvalidWord) : Def P w K mg base "applied" 1 2 (F_applied) :=
  Def.of (k := 0) T.a_applied sc_applied rfl (fun f cdv A outer s H E hr gd => by
    have nd := sc_applied.nd
    have tk := takes_of (X := cxOf (L2.CX P w) P w K mg base ["matrix", "numbers", "row", "part", "number"] "applied" (defScope s_applied) f cdv A outer s H E) rfl rfl rfl rfl
    have hp := passes_of (X := cxOf (L2.CX P w) P w K mg base ["matrix", "numbers", "row", "part", "number"] "applied" (defScope s_applied) f cdv A outer s H E) rfl
    exact s_one (s_retF (d_tuplec T.z_tuple (d_lc (own := [("row", 2)]) rfl nd (i_seq (dv 0)) (blkOk_by (show blkC ["matrix", "numbers", "row", "part", "number"] (defScope s_applied) _ _ = true by decide +kernel)) gN_ok gin_name (fun _ _ _ _ _ => pg_name (i := 2) nd rfl (by first | exact Or.inl rfl | exact Or.inr rfl)) (fun _ _ _ _ _ => pts_none _) (fun _ _ _ _ _ => d_sumA rfl T.z_sum (d_lc (own := [("part", 3), ("number", 4)]) rfl nd (i_zip2 T.z_zip (a_cons (dv 2) (a_cons (dv 1) (a_nil)))) (blkOk_by (by with_unfolding_all rfl)) (gU_ok (is := [3, 4])) (gin_two (by decide)) (fun _ _ _ _ _ => pg_tup rfl (pgs_cons (pg_name (i := 3) nd rfl (by first | exact Or.inl rfl | exact Or.inr rfl)) (pgs_cons (pg_name (i := 4) nd rfl (by first | exact Or.inl rfl | exact Or.inr rfl)) pgs_nil))) (fun _ _ _ _ _ => pts_none _) (fun _ _ _ _ _ => d_mul (dv 3) (dv 4))))))))
theorem sc_product : FnScope ["one", "other", "columns", "row"] ["one", "other"] (defScope s_product) := ⟨rfl, rfl, rfl, by decide +kernel, rfl, by decide +kernel, by decide +kernel⟩
theorem dd_product (T : Txt K mg C_InvalidFour C_InvalidWord) : Def P w K mg base "product" 2 2 (F_product) :=
  Def.of (k := 1) T.a_product sc_product rfl (fun f cdv A outer s H E hr gd => by
    have nd := sc_product.nd
    have tk := takes_of (X := cxOf (L2.CX P w) P w K mg base ["one", "other", "columns", "row"] "product" (defScope s_product) f cdv A outer s H E) rfl rfl rfl rfl
    have hp := passes_of (X := cxOf (L2.CX P w) P w K mg base ["one", "other", "columns", "row"] "product" (defScope s_product) f cdv A outer s H E) rfl
    exact s_cons (s_asg (i := 2) nd rfl (by first | exact Or.inl rfl | exact Or.inr rfl) (d_listZip T.z_zip T.z_list rfl (dv 1)))
      (s_one (s_retF (d_tuplec T.z_tuple (d_lc (own := [("row", 3)]) rfl nd (i_seq (dv 0)) (blkOk_by (show blkC ["one", "other", "columns", "row"] (defScope s_product) _ _ = true by decide +kernel)) gN_ok gin_name (fun _ _ _ _ _ => pg_name (i := 3) nd rfl (by first | exact Or.inl rfl | exact Or.inr rfl)) (fun _ _ _ _ _ => pts_none _) (fun _ _ _ _ _ => d_call (dd_applied T) hr (by decide) gd takes0 (a_cons (dv 2) (a_cons (dv 3) (a_nil)))))))))
theorem sc__law_row : FnScope ["cell", "many", "row", "rest", "mixed", "k"] ["cell", "many"] (defScope s__law_row) := ⟨rfl, rfl, rfl, by decide +kernel, rfl, by decide +kernel, by decide +kernel⟩
theorem dd__law_row (T : Txt K mg C_InvalidFour C_InvalidWord) : Def P w K mg base "_law_row" 1 2 (F__law_row) :=
  Def.of (k := 0) T.a__law_row sc__law_row rfl (fun f cdv A outer s H E hr gd => by
    have nd := sc__law_row.nd
    have tk := takes_of (X := cxOf (L2.CX P w) P w K mg base ["cell", "many", "row", "rest", "mixed", "k"] "_law_row" (defScope s__law_row) f cdv A outer s H E) rfl rfl rfl rfl
    have hp := passes_of (X := cxOf (L2.CX P w) P w K mg base ["cell", "many", "row", "rest", "mixed", "k"] "_law_row" (defScope s__law_row) f cdv A outer s H E) rfl
    exact s_cons (s_own (i := 2) nd rfl (by first | exact Or.inl rfl | exact Or.inr rfl) (d_lst (a_nil)))
      (s_cons (s_asg (i := 3) nd rfl (by first | exact Or.inl rfl | exact Or.inr rfl) (d_abs T.z_abs (dv 0)))
      (s_cons (s_asg (i := 4) nd rfl (by first | exact Or.inl rfl | exact Or.inr rfl) (d_mod (d_intc T.z_int (d_add (d_mul (dv 3) (d_int)) (d_int))) (d_int)))
      (s_cons (s_wp (vs := [3, 4, 5]) (s_for hp rfl (i_range1 T.z_range (dv 1)) (pg_name (i := 5) nd rfl (by first | exact Or.inl rfl | exact Or.inr rfl)) gN_ok
      (ss_wp (vs := [5]) (s_cons (s_asg (i := 4) nd rfl (by first | exact Or.inl rfl | exact Or.inr rfl) (d_mod (d_intc T.z_int (d_add (d_mul (dv 4) (d_int)) (d_mul (d_int) (d_add (dv 5) (d_int))))) (d_int)))
      (s_one (s_if (t_ge (d_abs T.z_abs (dv 0)) (d_pow (d_int) (d_int)))
      (s_cons (s_app (i := 2) (pe_bm PySem.F.plainAttrs_list PySem.F.slot_list_append PySem.F.type_list_append mt_append (pv 2) (pa_cons (d_mod (d_intc T.z_int (dv 3)) (d_int)) pa_nil)))
      (s_one (s_asg (i := 3) nd rfl (by first | exact Or.inl rfl | exact Or.inr rfl) (d_fdiv (dv 3) (d_int)))))
      (s_one (s_app (i := 2) (pe_bm PySem.F.plainAttrs_list PySem.F.slot_list_append PySem.F.type_list_append mt_append (pv 2) (pa_cons (d_mod (d_intc T.z_int (d_fdiv (dv 4) (d_int))) (d_int)) pa_nil))))))))))
      (s_one (s_retOwnN (i := 2) rfl (by first | exact Or.inl rfl | exact Or.inr (Or.inl rfl))))))))
theorem sc__law_numbers : FnScope ["script", "many", "cells", "each", "numbers", "cell", "number"] ["script", "many"] (defScope s__law_numbers) := ⟨rfl, rfl, rfl, by decide +kernel, rfl, by decide +kernel, by decide +kernel⟩
theorem dd__law_numbers (T : Txt K mg C_InvalidFour C_InvalidWord) : Def P w K mg base "_law_numbers" 2 2 (F__law_numbers) :=
  Def.of (k := 1) T.a__law_numbers sc__law_numbers rfl (fun f cdv A outer s H E hr gd => by
    have nd := sc__law_numbers.nd
    have tk := takes_of (X := cxOf (L2.CX P w) P w K mg base ["script", "many", "cells", "each", "numbers", "cell", "number"] "_law_numbers" (defScope s__law_numbers) f cdv A outer s H E) rfl rfl rfl rfl
    have hp := passes_of (X := cxOf (L2.CX P w) P w K mg base ["script", "many", "cells", "each", "numbers", "cell", "number"] "_law_numbers" (defScope s__law_numbers) f cdv A outer s H E) rfl
    exact s_cons (s_asg (i := 2) nd rfl (by first | exact Or.inl rfl | exact Or.inr rfl) (d_slice (dv 0) (o_none) (o_some (d_int))))
      (s_cons (s_asg (i := 3) nd rfl (by first | exact Or.inl rfl | exact Or.inr rfl) (d_add (d_int) (d_fdiv (dv 1) (d_max2 rfl T.z_max (d_int) (d_len T.z_len (dv 2))))))
      (s_cons (s_own (i := 4) nd rfl (by first | exact Or.inl rfl | exact Or.inr rfl) (d_lst (a_nil)))
      (s_cons (s_wp (vs := [5, 6]) (s_for hp rfl (i_seq (dv 2)) (pg_name (i := 5) nd rfl (by first | exact Or.inl rfl | exact Or.inr rfl)) gN_ok
      (ss_wp (vs := [5, 6]) (s_one (s_wp (vs := [6]) (s_for hp rfl (i_seq (d_call (dd__law_row T) hr (by decide) gd tk (a_cons (dv 5) (a_cons (dv 3) (a_nil))))) (pg_name (i := 6) nd rfl (by first | exact Or.inl rfl | exact Or.inr rfl)) gN_ok
      (ss_wp (vs := [6]) (s_one (s_app (i := 4) (pe_bm PySem.F.plainAttrs_list PySem.F.slot_list_append PySem.F.type_list_append mt_append (pv 4) (pa_cons (dv 6) pa_nil)))))))))))
      (s_cons (s_while hp (t_lt (d_len T.z_len (dv 4)) (dv 1))
      (s_one (s_app (i := 4) (pe_bm PySem.F.plainAttrs_list PySem.F.slot_list_append PySem.F.type_list_append mt_append (pv 4) (pa_cons (d_int) pa_nil)))))
      (ss_frz (i := 4) (s_one (s_retF (d_slice (dv 4) (o_none) (o_some (dv 1)))))))))))
theorem sc__law_word : FnScope ["numbers", "at", "many", "k"] ["numbers", "at", "many"] (defScope s__law_word) := ⟨rfl, rfl, rfl, by decide +kernel, rfl, by decide +kernel, by decide +kernel⟩
theorem dd__law_word (T : Txt K mg C_InvalidFour C_InvalidWord) : Def P w K mg base "_law_word" 1 3 (F__law_word) :=
  Def.of (k := 0) T.a__law_word sc__law_word rfl (fun f cdv A outer s H E hr gd => by
    have nd := sc__law_word.nd
    have tk := takes_of (X := cxOf (L2.CX P w) P w K mg base ["numbers", "at", "many", "k"] "_law_word" (defScope s__law_word) f cdv A outer s H E) rfl rfl rfl rfl
    have hp := passes_of (X := cxOf (L2.CX P w) P w K mg base ["numbers", "at", "many", "k"] "_law_word" (defScope s__law_word) f cdv A outer s H E) rfl
    exact s_one (s_retF (d_tuplec T.z_tuple (d_lc (own := [("k", 3)]) rfl nd (i_range1 T.z_range (dv 2)) (blkOk_by (show blkC ["numbers", "at", "many", "k"] (defScope s__law_word) _ _ = true by decide +kernel)) gN_ok gin_name (fun _ _ _ _ _ => pg_name (i := 3) nd rfl (by first | exact Or.inl rfl | exact Or.inr rfl)) (fun _ _ _ _ _ => pts_none _) (fun _ _ _ _ _ => d_add (d_int) (d_mod (d_intc T.z_int (d_ix (dv 0) (d_add (dv 1) (dv 3)))) (d_int)))))))
theorem sc__law_exchange : FnScope ["four", "letter", "total", "changed"] ["four", "letter"] (defScope s__law_exchange) := ⟨rfl, rfl, rfl, by decide +kernel, rfl, by decide +kernel, by decide +kernel⟩
theorem dd__law_exchange (T : Txt K mg C_InvalidFour C_InvalidWord) : Def P w K mg base "_law_exchange" 1 2 (F__law_exchange) :=
  Def.of (k := 0) T.a__law_exchange sc__law_exchange rfl (fun f cdv A outer s H E hr gd => by
    have nd := sc__law_exchange.nd
    have tk := takes_of (X := cxOf (L2.CX P w) P w K mg base ["four", "letter", "total", "changed"] "_law_exchange" (defScope s__law_exchange) f cdv A outer s H E) rfl rfl rfl rfl
    have hp := passes_of (X := cxOf (L2.CX P w) P w K mg base ["four", "letter", "total", "changed"] "_law_exchange" (defScope s__law_exchange) f cdv A outer s H E) rfl
    exact s_cons (s_asg (i := 2) nd rfl (by first | exact Or.inl rfl | exact Or.inr rfl) (d_sumA rfl T.z_sum (dv 0)))
      (s_cons (s_own (i := 3) nd rfl (by first | exact Or.inl rfl | exact Or.inr rfl) (d_listc T.z_list (dv 0)))
      (s_cons (s_set (i := 3) (ps_asg (d_sub (d_mul (d_int) (dv 2)) (d_mul (d_int) (d_ix (dv 0) (d_sub (dv 1) (d_int))))) (pg_sub (pv 3) (d_sub (dv 1) (d_int)) set_list)))
      (ss_frz (i := 3) (s_one (s_retF (d_tuplec T.z_tuple (dv 3))))))))
theorem sc__law_quadruple : FnScope ["numbers", "at", "roots", "number", "root", "factor", "turn", "four", "k"] ["numbers", "at"] (defScope s__law_quadruple) := ⟨rfl, rfl, rfl, by decide +kernel, rfl, by decide +kernel, by decide +kernel⟩
theorem dd__law_quadruple (T : Txt K mg C_InvalidFour C_InvalidWord) : Def P w K mg base "_law_quadruple" 2 2 (F__law_quadruple) :=
  Def.of (k := 1) T.a__law_quadruple sc__law_quadruple rfl (fun f cdv A outer s H E hr gd => by
    have nd := sc__law_quadruple.nd
    have tk := takes_of (X := cxOf (L2.CX P w) P w K mg base ["numbers", "at", "roots", "number", "root", "factor", "turn", "four", "k"] "_law_quadruple" (defScope s__law_quadruple) f cdv A outer s H E) rfl rfl rfl rfl
    have hp := passes_of (X := cxOf (L2.CX P w) P w K mg base ["numbers", "at", "roots", "number", "root", "factor", "turn", "four", "k"] "_law_quadruple" (defScope s__law_quadruple) f cdv A outer s H E) rfl
    exact s_cons (s_asg (i := 2) nd rfl (by first | exact Or.inl rfl | exact Or.inr rfl) (d_lst (a_cons (d_tup (a_cons (d_neg (d_int)) (a_cons (d_int) (a_cons (d_int) (a_cons (d_int) (a_nil)))))) (a_cons (d_tup (a_cons (d_neg (d_int)) (a_cons (d_int) (a_cons (d_int) (a_cons (d_int) (a_nil)))))) (a_cons (d_tup (a_cons (d_neg (d_int)) (a_cons (d_int) (a_cons (d_int) (a_cons (d_int) (a_nil)))))) (a_cons (d_tup (a_cons (d_neg (d_int)) (a_cons (d_int) (a_cons (d_int) (a_cons (d_int) (a_nil)))))) (a_cons (d_tup (a_cons (d_neg (d_int)) (a_cons (d_int) (a_cons (d_int) (a_cons (d_int) (a_nil)))))) (a_cons (d_tup (a_cons (d_neg (d_int)) (a_cons (d_int) (a_cons (d_int) (a_cons (d_int) (a_nil)))))) (a_cons (d_tup (a_cons (d_int) (a_cons (d_int) (a_cons (d_int) (a_cons (d_int) (a_nil)))))) (a_nil))))))))))
      (s_cons (s_asg (i := 3) nd rfl (by first | exact Or.inl rfl | exact Or.inr rfl) (d_mod (d_intc T.z_int (d_ix (dv 0) (dv 1))) (d_int)))
      (s_cons (s_asg (i := 4) nd rfl (by first | exact Or.inl rfl | exact Or.inr rfl) (d_ix (dv 2) (d_min2 rfl T.z_min (dv 3) (d_int))))
      (s_cons (s_wp (vs := [8]) (s_if (t_gt (dv 3) (d_int))
      (s_cons (s_asg (i := 8) nd rfl (by first | exact Or.inl rfl | exact Or.inr rfl) (d_add (d_int) (d_mod (d_intc T.z_int (d_fdiv (d_ix (dv 0) (dv 1)) (d_int))) (d_int))))
      (s_one (s_asg (i := 4) nd rfl (by first | exact Or.inl rfl | exact Or.inr rfl) (d_tup (a_cons (d_neg (dv 8)) (a_cons (d_add (dv 8) (d_int)) (a_cons (d_mul (dv 8) (d_add (dv 8) (d_int))) (a_cons (d_add (d_mul (dv 8) (d_add (dv 8) (d_int))) (d_int)) (a_nil)))))))))
      (s_nil)))
      (s_cons (s_asg (i := 5) nd rfl (by first | exact Or.inl rfl | exact Or.inr rfl) (d_ix (d_lst (a_cons (d_int) (a_cons (d_int) (a_cons (d_int) (a_cons (d_int) (a_cons (d_int) (a_nil))))))) (d_mod (d_intc T.z_int (d_ix (dv 0) (d_add (dv 1) (d_int)))) (d_int))))
      (s_cons (s_asg (i := 6) nd rfl (by first | exact Or.inl rfl | exact Or.inr rfl) (d_mod (d_intc T.z_int (d_ix (dv 0) (d_add (dv 1) (d_int)))) (d_int)))
      (s_cons (s_asg (i := 7) nd rfl (by first | exact Or.inl rfl | exact Or.inr rfl) (d_tuplec T.z_tuple (d_lc (own := [("number", 3)]) rfl nd (i_seq (d_add (d_slice (dv 4) (o_some (dv 6)) (o_none)) (d_slice (dv 4) (o_none) (o_some (dv 6))))) (blkOk_by (show blkC ["numbers", "at", "roots", "number", "root", "factor", "turn", "four", "k"] (defScope s__law_quadruple) _ _ = true by decide +kernel)) gN_ok gin_name (fun _ _ _ _ _ => pg_name (i := 3) nd rfl (by first | exact Or.inl rfl | exact Or.inr rfl)) (fun _ _ _ _ _ => pts_none _) (fun _ _ _ _ _ => d_mul (dv 5) (dv 3)))))
      (s_cons (s_if (t_eq hr.units (d_mod (d_intc T.z_int (d_fdiv (d_ix (dv 0) (d_add (dv 1) (d_int))) (d_int))) (d_int)) (d_int))
      (s_one (s_asg (i := 7) nd rfl (by first | exact Or.inl rfl | exact Or.inr rfl) (d_revT (dv 7))))
      (s_nil))
      (s_cons (s_wp (vs := [8]) (s_for hp rfl (i_range1 T.z_range (d_mod (d_intc T.z_int (d_ix (dv 0) (d_add (dv 1) (d_int)))) (d_int))) (pg_name (i := 8) nd rfl (by first | exact Or.inl rfl | exact Or.inr rfl)) gN_ok
      (ss_wp (vs := [8]) (s_one (s_asg (i := 7) nd rfl (by first | exact Or.inl rfl | exact Or.inr rfl) (d_call (dd__law_exchange T) hr (by decide) gd tk (a_cons (dv 7) (a_cons (d_add (d_int) (d_mod (d_intc T.z_int (d_ix (dv 0) (d_add (d_add (dv 1) (d_int)) (dv 8)))) (d_int))) (a_nil)))))))))
      (s_one (s_ret (dv 7))))))))))))
theorem sc__law_matrix : FnScope ["word", "columns", "k", "four", "letter", "j"] ["word"] (defScope s__law_matrix) := ⟨rfl, rfl, rfl, by decide +kernel, rfl, by decide +kernel, by decide +kernel⟩
theorem dd__law_matrix (T : Txt K mg C_InvalidFour C_InvalidWord) : Def P w K mg base "_law_matrix" 2 1 (F__law_matrix) :=
  Def.of (k := 1) T.a__law_matrix sc__law_matrix rfl (fun f cdv A outer s H E hr gd => by
    have nd := sc__law_matrix.nd
    have tk := takes_of (X := cxOf (L2.CX P w) P w K mg base ["word", "columns", "k", "four", "letter", "j"] "_law_matrix" (defScope s__law_matrix) f cdv A outer s H E) rfl rfl rfl rfl
    have hp := passes_of (X := cxOf (L2.CX P w) P w K mg base ["word", "columns", "k", "four", "letter", "j"] "_law_matrix" (defScope s__law_matrix) f cdv A outer s H E) rfl
    exact s_cons (s_own (i := 1) nd rfl (by first | exact Or.inl rfl | exact Or.inr rfl) (d_lst (a_nil)))
      (s_cons (s_wp (vs := [2, 3, 4]) (s_for hp rfl (i_range1 T.z_range (d_int)) (pg_name (i := 2) nd rfl (by first | exact Or.inl rfl | exact Or.inr rfl)) gN_ok
      (ss_wp (vs := [2, 3, 4]) (s_cons (s_asg (i := 3) nd rfl (by first | exact Or.inl rfl | exact Or.inr rfl) (d_tuplec T.z_tuple (d_lc (own := [("j", 5)]) rfl nd (i_range1 T.z_range (d_int)) (blkOk_by (show blkC ["word", "columns", "k", "four", "letter", "j"] (defScope s__law_matrix) _ _ = true by decide +kernel)) gN_ok gin_name (fun _ _ _ _ _ => pg_name (i := 5) nd rfl (by first | exact Or.inl rfl | exact Or.inr rfl)) (fun _ _ _ _ _ => pts_none _) (fun _ _ _ _ _ => d_intc T.z_int (d_eq hr.units (dv 5) (dv 2))))))
      (s_cons (s_wp (vs := [4]) (s_for hp rfl (i_seq (dv 0)) (pg_name (i := 4) nd rfl (by first | exact Or.inl rfl | exact Or.inr rfl)) gN_ok
      (ss_wp (vs := [4]) (s_one (s_asg (i := 3) nd rfl (by first | exact Or.inl rfl | exact Or.inr rfl) (d_call (dd__law_exchange T) hr (by decide) gd tk (a_cons (dv 3) (a_cons (dv 4) (a_nil)))))))))
      (s_one (s_app (i := 1) (pe_bm PySem.F.plainAttrs_list PySem.F.slot_list_append PySem.F.type_list_append mt_append (pv 1) (pa_cons (dv 3) pa_nil)))))))))
      (ss_frz (i := 1) (s_one (s_retF (d_tuplec T.z_tuple (d_lc (own := [("j", 5)]) rfl nd (i_range1 T.z_range (d_int)) (blkOk_by (show blkC ["word", "columns", "k", "four", "letter", "j"] (defScope s__law_matrix) _ _ = true by decide +kernel)) gN_ok gin_name (fun _ _ _ _ _ => pg_name (i := 5) nd rfl (by first | exact Or.inl rfl | exact Or.inr rfl)) (fun _ _ _ _ _ => pts_none _) (fun _ _ _ _ _ => d_tuplec T.z_tuple (d_lc (own := [("k", 2)]) rfl nd (i_range1 T.z_range (d_int)) (blkOk_by (by with_unfolding_all rfl)) gN_ok gin_name (fun _ _ _ _ _ => pg_name (i := 2) nd rfl (by first | exact Or.inl rfl | exact Or.inr rfl)) (fun _ _ _ _ _ => pts_none _) (fun _ _ _ _ _ => d_ix (d_ix (dv 1) (dv 2)) (dv 5)))))))))))
/-! law -/
noncomputable def le_law_0 : Ev := (e2 mulD (e2 ixD (varE 8) (varE 10)) (e2 ixD (e2 ixD (varE 5) (varE 10)) (varE 11)))
noncomputable def le_law_1 : Ev := (e1 sumA (lcE (rng1I (cE (.int 4))) [10] (gN 10) yesB le_law_0))
noncomputable def lb_law_0 : Es := (wpS [8] (appS 7 (e1 tupleD (lcE (rng1I (cE (.int 4))) [11] (gN 11) yesB le_law_1))))
noncomputable def le_law_2 : Ev := (e2 subD (e2 modD (e1 intD (e2 ixD (varE 1) (e2 addD (cE (.int 50)) (varE 10)))) (cE (.int 41))) (cE (.int 20)))
noncomputable def le_law_3 : Ev := (e2 mulD (e2 ixD (varE 8) (varE 10)) (e2 ixD (varE 9) (varE 10)))
noncomputable def le_law_4 : Ev := (e1 sumA (lcE (rng1I (cE (.int 4))) [10] (gN 10) yesB le_law_3))
noncomputable def b_law (C_InvalidFour : Addr) (C_InvalidWord : Addr) : Es := (seqS (asgS 1 (callE 2 F__law_numbers (consA (varE 0) (consA (cE (.int 60)) nilA))))
  (seqS (asgS 2 (callE 2 F__law_quadruple (consA (varE 1) (consA (cE (.int 0)) nilA))))
  (seqS (asgS 3 (callE 3 F__law_word (consA (varE 1) (consA (cE (.int 20)) (consA (e2 modD (e1 intD (e2 ixD (varE 1) (cE (.int 30)))) (cE (.int 8))) nilA)))))
  (seqS (asgS 4 (callE 3 F__law_word (consA (varE 1) (consA (cE (.int 40)) (consA (e2 modD (e1 intD (e2 ixD (varE 1) (cE (.int 31)))) (cE (.int 8))) nilA)))))
  (seqS (asgS 5 (callE 1 (F_matrix_of C_InvalidWord) (consA (e1 listD (varE 3)) nilA)))
  (seqS (asgS 6 (callE 1 (F_matrix_of C_InvalidWord) (consA (varE 4) nilA)))
  (seqS (ifS (orB (tst0 (e2 neD (e1 reprD (varE 5)) (e1 reprD (callE 1 F__law_matrix (consA (varE 3) nilA))))) (tst0 (e2 neD (e1 reprD (callE 2 F_applied (consA (varE 5) (consA (e1 listD (varE 2)) nilA)))) (e1 reprD (callE 2 (F_curvatures_at_2 C_InvalidFour C_InvalidWord) (consA (varE 2) (consA (varE 3) nilA)))))))
  (retS (cE (.bl false)))
  skipS)
  (seqS (ownS 7 (lstE nilA))
  (seqS (wpS [8] (forS (seqI (varE 6)) (gN 8)
  lb_law_0))
  (frzS 7 (seqS (ifS (orB (tst0 (e2 neD (e1 reprD (callE 2 F_product (consA (varE 6) (consA (varE 5) nilA)))) (e1 reprD (e1 tupleD (varE 7))))) (tst0 (e2 neD (callE 2 F_product (consA (varE 6) (consA (varE 5) nilA))) (callE 1 F__law_matrix (consA (e2 addD (varE 3) (varE 4)) nilA)))))
  (retS (cE (.bl false)))
  skipS)
  (seqS (asgS 9 (lcE (rng1I (cE (.int 4))) [10] (gN 10) yesB le_law_2))
  (retS (e2 eqD (callE 2 F_applied (consA (varE 5) (consA (varE 9) nilA))) (e1 tupleD (lcE (seqI (varE 5)) [8] (gN 8) yesB le_law_4))))))))))))))))
noncomputable def F_law (C_InvalidFour : Addr) (C_InvalidWord : Addr) : List D → Res D := runF 11 (b_law C_InvalidFour C_InvalidWord)
theorem sc_law : FnScope ["script", "numbers", "four", "one", "other", "first", "second", "due", "row", "drawn", "k", "j"] ["script"] (defScope s_law) := ⟨rfl, rfl, rfl, by decide +kernel, rfl, by decide +kernel, by decide +kernel⟩
theorem w_law (T : Txt K mg C_InvalidFour C_InvalidWord) {fa : Addr} (hfa : mg "law" = some (.ref fa)) : ∃ fd : FuncData, (∀ (s : Shared) (u : Value), BindsTo s fd ⟨[u], []⟩ [("script", u)]) ∧ ∀ base : Heap, K.In base → base.Ns mainGlobals mg → FnG P w K mg base 5 fa fd ["script"] (spD K 1 (F_law C_InvalidFour C_InvalidWord)) :=
  lawOf (k := 4) T.a_law hfa sc_law rfl (fun base f cdv A outer s H E hr gd => by
    have nd := sc_law.nd
    have tk := takes_of (X := cxOf (L2.CX P w) P w K mg base ["script", "numbers", "four", "one", "other", "first", "second", "due", "row", "drawn", "k", "j"] "law" (defScope s_law) f cdv A outer s H E) rfl rfl rfl rfl
    have hp := passes_of (X := cxOf (L2.CX P w) P w K mg base ["script", "numbers", "four", "one", "other", "first", "second", "due", "row", "drawn", "k", "j"] "law" (defScope s_law) f cdv A outer s H E) rfl
    exact s_cons (s_asg (i := 1) nd rfl (by first | exact Or.inl rfl | exact Or.inr rfl) (d_call (dd__law_numbers T) hr (by decide) gd tk (a_cons (dv 0) (a_cons (d_int) (a_nil)))))
      (s_cons (s_asg (i := 2) nd rfl (by first | exact Or.inl rfl | exact Or.inr rfl) (d_call (dd__law_quadruple T) hr (by decide) gd tk (a_cons (dv 1) (a_cons (d_int) (a_nil)))))
      (s_cons (s_asg (i := 3) nd rfl (by first | exact Or.inl rfl | exact Or.inr rfl) (d_call (dd__law_word T) hr (by decide) gd tk (a_cons (dv 1) (a_cons (d_int) (a_cons (d_mod (d_intc T.z_int (d_ix (dv 1) (d_int))) (d_int)) (a_nil))))))
      (s_cons (s_asg (i := 4) nd rfl (by first | exact Or.inl rfl | exact Or.inr rfl) (d_call (dd__law_word T) hr (by decide) gd tk (a_cons (dv 1) (a_cons (d_int) (a_cons (d_mod (d_intc T.z_int (d_ix (dv 1) (d_int))) (d_int)) (a_nil))))))
      (s_cons (s_asg (i := 5) nd rfl (by first | exact Or.inl rfl | exact Or.inr rfl) (d_call (dd_matrix_of T) hr (by decide) gd tk (a_cons (d_listc T.z_list (dv 3)) (a_nil))))
      (s_cons (s_asg (i := 6) nd rfl (by first | exact Or.inl rfl | exact Or.inr rfl) (d_call (dd_matrix_of T) hr (by decide) gd tk (a_cons (dv 4) (a_nil))))
      (s_cons (s_if (t_w (w_or (t_ne hr.units (d_repr gd hr.units T.z_repr (dv 5)) (d_repr gd hr.units T.z_repr (d_call (dd__law_matrix T) hr (by decide) gd tk (a_cons (dv 3) (a_nil))))) (w_or1 (t_ne hr.units (d_repr gd hr.units T.z_repr (d_call (dd_applied T) hr (by decide) gd tk (a_cons (dv 5) (a_cons (d_listc T.z_list (dv 2)) (a_nil))))) (d_repr gd hr.units T.z_repr (d_call (dd_curvatures_at T) hr (by decide) gd tk (a_cons (dv 2) (a_cons (dv 3) (a_nil)))))))))
      (s_one (s_ret (d_bl)))
      (s_nil))
      (s_cons (s_own (i := 7) nd rfl (by first | exact Or.inl rfl | exact Or.inr rfl) (d_lst (a_nil)))
      (s_cons (s_wp (vs := [8]) (s_for hp rfl (i_seq (dv 6)) (pg_name (i := 8) nd rfl (by first | exact Or.inl rfl | exact Or.inr rfl)) gN_ok
      (ss_wp (vs := [8]) (s_one (s_app (i := 7) (pe_bm PySem.F.plainAttrs_list PySem.F.slot_list_append PySem.F.type_list_append mt_append (pv 7) (pa_cons (d_tuplec T.z_tuple (d_lc (own := [("j", 11)]) rfl nd (i_range1 T.z_range (d_int)) (blkOk_by (show blkC ["script", "numbers", "four", "one", "other", "first", "second", "due", "row", "drawn", "k", "j"] (defScope s_law) _ _ = true by decide +kernel)) gN_ok gin_name (fun _ _ _ _ _ => pg_name (i := 11) nd rfl (by first | exact Or.inl rfl | exact Or.inr rfl)) (fun _ _ _ _ _ => pts_none _) (fun _ _ _ _ _ => d_sumA rfl T.z_sum (d_lc (own := [("k", 10)]) rfl nd (i_range1 T.z_range (d_int)) (blkOk_by (by with_unfolding_all rfl)) gN_ok gin_name (fun _ _ _ _ _ => pg_name (i := 10) nd rfl (by first | exact Or.inl rfl | exact Or.inr rfl)) (fun _ _ _ _ _ => pts_none _) (fun _ _ _ _ _ => d_mul (d_ix (dv 8) (dv 10)) (d_ix (d_ix (dv 5) (dv 10)) (dv 11))))))) pa_nil)))))))
      (ss_frz (i := 7) (s_cons (s_if (t_w (w_or (t_ne hr.units (d_repr gd hr.units T.z_repr (d_call (dd_product T) hr (by decide) gd tk (a_cons (dv 6) (a_cons (dv 5) (a_nil))))) (d_repr gd hr.units T.z_repr (d_tuplec T.z_tuple (dv 7)))) (w_or1 (t_ne hr.units (d_call (dd_product T) hr (by decide) gd tk (a_cons (dv 6) (a_cons (dv 5) (a_nil)))) (d_call (dd__law_matrix T) hr (by decide) gd tk (a_cons (d_add (dv 3) (dv 4)) (a_nil)))))))
      (s_one (s_ret (d_bl)))
      (s_nil))
      (s_cons (s_asg (i := 9) nd rfl (by first | exact Or.inl rfl | exact Or.inr rfl) (d_lc (own := [("k", 10)]) rfl nd (i_range1 T.z_range (d_int)) (blkOk_by (show blkC ["script", "numbers", "four", "one", "other", "first", "second", "due", "row", "drawn", "k", "j"] (defScope s_law) _ _ = true by decide +kernel)) gN_ok gin_name (fun _ _ _ _ _ => pg_name (i := 10) nd rfl (by first | exact Or.inl rfl | exact Or.inr rfl)) (fun _ _ _ _ _ => pts_none _) (fun _ _ _ _ _ => d_sub (d_mod (d_intc T.z_int (d_ix (dv 1) (d_add (d_int) (dv 10)))) (d_int)) (d_int))))
      (s_one (s_ret (d_eq hr.units (d_call (dd_applied T) hr (by decide) gd tk (a_cons (dv 5) (a_cons (dv 9) (a_nil)))) (d_tuplec T.z_tuple (d_lc (own := [("row", 8)]) rfl nd (i_seq (dv 5)) (blkOk_by (show blkC ["script", "numbers", "four", "one", "other", "first", "second", "due", "row", "drawn", "k", "j"] (defScope s_law) _ _ = true by decide +kernel)) gN_ok gin_name (fun _ _ _ _ _ => pg_name (i := 8) nd rfl (by first | exact Or.inl rfl | exact Or.inr rfl)) (fun _ _ _ _ _ => pts_none _) (fun _ _ _ _ _ => d_sumA rfl T.z_sum (d_lc (own := [("k", 10)]) rfl nd (i_range1 T.z_range (d_int)) (blkOk_by (by with_unfolding_all rfl)) gN_ok gin_name (fun _ _ _ _ _ => pg_name (i := 10) nd rfl (by first | exact Or.inl rfl | exact Or.inr rfl)) (fun _ _ _ _ _ => pts_none _) (fun _ _ _ _ _ => d_mul (d_ix (dv 8) (dv 10)) (d_ix (dv 9) (dv 10))))))))))))))))))))))
end
theorem txt_mk {K : PySem.W.Frag} {h : Heap} {mg : Str → Option Value} {C_InvalidFour C_InvalidWord : Addr} (X : K.In h) (G : h.Ns mainGlobals mg)
    {f0 : Addr} {oc0 kV0 doc0 pm0 cdv0 ct0 : Value} {od0 an0 : Option Addr} {osl0 : Array (Option Value)}
    {f1 : Addr} {oc1 kV1 doc1 pm1 cdv1 ct1 : Value} {od1 an1 : Option Addr} {osl1 : Array (Option Value)}
    {f2 : Addr} {oc2 kV2 doc2 pm2 cdv2 ct2 : Value} {od2 an2 : Option Addr} {osl2 : Array (Option Value)}
    {f3 : Addr} {oc3 kV3 doc3 pm3 cdv3 ct3 : Value} {od3 an3 : Option Addr} {osl3 : Array (Option Value)}
    {f4 : Addr} {oc4 kV4 doc4 pm4 cdv4 ct4 : Value} {od4 an4 : Option Addr} {osl4 : Array (Option Value)}
    {f5 : Addr} {oc5 kV5 doc5 pm5 cdv5 ct5 : Value} {od5 an5 : Option Addr} {osl5 : Array (Option Value)}
    {f6 : Addr} {oc6 kV6 doc6 pm6 cdv6 ct6 : Value} {od6 an6 : Option Addr} {osl6 : Array (Option Value)}
    {f7 : Addr} {oc7 kV7 doc7 pm7 cdv7 ct7 : Value} {od7 an7 : Option Addr} {osl7 : Array (Option Value)}
    {f8 : Addr} {oc8 kV8 doc8 pm8 cdv8 ct8 : Value} {od8 an8 : Option Addr} {osl8 : Array (Option Value)}
    {f9 : Addr} {oc9 kV9 doc9 pm9 cdv9 ct9 : Value} {od9 an9 : Option Addr} {osl9 : Array (Option Value)}
    {f10 : Addr} {oc10 kV10 doc10 pm10 cdv10 ct10 : Value} {od10 an10 : Option Addr} {osl10 : Array (Option Value)}
    {f11 : Addr} {oc11 kV11 doc11 pm11 cdv11 ct11 : Value} {od11 an11 : Option Addr} {osl11 : Array (Option Value)}
    {f12 : Addr} {oc12 kV12 doc12 pm12 cdv12 ct12 : Value} {od12 an12 : Option Addr} {osl12 : Array (Option Value)}
    {f13 : Addr} {oc13 kV13 doc13 pm13 cdv13 ct13 : Value} {od13 an13 : Option Addr} {osl13 : Array (Option Value)}
    {f14 : Addr} {oc14 kV14 doc14 pm14 cdv14 ct14 : Value} {od14 an14 : Option Addr} {osl14 : Array (Option Value)}
    {f15 : Addr} {oc15 kV15 doc15 pm15 cdv15 ct15 : Value} {od15 an15 : Option Addr} {osl15 : Array (Option Value)}
    {f16 : Addr} {oc16 kV16 doc16 pm16 cdv16 ct16 : Value} {od16 an16 : Option Addr} {osl16 : Array (Option Value)}
    {f17 : Addr} {oc17 kV17 doc17 pm17 cdv17 ct17 : Value} {od17 an17 : Option Addr} {osl17 : Array (Option Value)}
    {f18 : Addr} {oc18 kV18 doc18 pm18 cdv18 ct18 : Value} {od18 an18 : Option Addr} {osl18 : Array (Option Value)}
    {f19 : Addr} {oc19 kV19 doc19 pm19 cdv19 ct19 : Value} {od19 an19 : Option Addr} {osl19 : Array (Option Value)}
    (z_tuple : PySem.W.nsIn K mainGlobals "tuple" = some none)
    (z_zip : PySem.W.nsIn K mainGlobals "zip" = some none)
    (z_sum : PySem.W.nsIn K mainGlobals "sum" = some none)
    (z_isinstance : PySem.W.nsIn K mainGlobals "isinstance" = some none)
    (z_bool : PySem.W.nsIn K mainGlobals "bool" = some none)
    (z_int : PySem.W.nsIn K mainGlobals "int" = some none)
    (z_list : PySem.W.nsIn K mainGlobals "list" = some none)
    (z_len : PySem.W.nsIn K mainGlobals "len" = some none)
    (z_abs : PySem.W.nsIn K mainGlobals "abs" = some none)
    (z_range : PySem.W.nsIn K mainGlobals "range" = some none)
    (z_max : PySem.W.nsIn K mainGlobals "max" = some none)
    (z_min : PySem.W.nsIn K mainGlobals "min" = some none)
    (z_repr : PySem.W.nsIn K mainGlobals "repr" = some none)
    (a_is_quadruple : PySem.W.nsIn K mainGlobals "is_quadruple" = some (some (.ref f0))) (l_is_quadruple : K.lookup f0 = some ⟨oc0, od0, .func (PySem.W.fnOf "is_quadruple" "is_quadruple" (defArgs s_is_quadruple) (defBody s_is_quadruple) (defScope s_is_quadruple) .none kV0 doc0 pm0 an0 cdv0 ct0), osl0⟩) (c_is_quadruple : PySem.W.codeIn K cdv0 "is_quadruple" = true) (k_is_quadruple : PySem.W.keepIn K (.ref f0) = true)
    (a_check_quadruple : PySem.W.nsIn K mainGlobals "check_quadruple" = some (some (.ref f1))) (l_check_quadruple : K.lookup f1 = some ⟨oc1, od1, .func (PySem.W.fnOf "check_quadruple" "check_quadruple" (defArgs s_check_quadruple) (defBody s_check_quadruple) (defScope s_check_quadruple) .none kV1 doc1 pm1 an1 cdv1 ct1), osl1⟩) (c_check_quadruple : PySem.W.codeIn K cdv1 "check_quadruple" = true) (k_check_quadruple : PySem.W.keepIn K (.ref f1) = true)
    (a_is_place : PySem.W.nsIn K mainGlobals "is_place" = some (some (.ref f2))) (l_is_place : K.lookup f2 = some ⟨oc2, od2, .func (PySem.W.fnOf "is_place" "is_place" (defArgs s_is_place) (defBody s_is_place) (defScope s_is_place) .none kV2 doc2 pm2 an2 cdv2 ct2), osl2⟩) (c_is_place : PySem.W.codeIn K cdv2 "is_place" = true) (k_is_place : PySem.W.keepIn K (.ref f2) = true)
    (a_check_word : PySem.W.nsIn K mainGlobals "check_word" = some (some (.ref f3))) (l_check_word : K.lookup f3 = some ⟨oc3, od3, .func (PySem.W.fnOf "check_word" "check_word" (defArgs s_check_word) (defBody s_check_word) (defScope s_check_word) .none kV3 doc3 pm3 an3 cdv3 ct3), osl3⟩) (c_check_word : PySem.W.codeIn K cdv3 "check_word" = true) (k_check_word : PySem.W.keepIn K (.ref f3) = true)
    (a_exchanged_numbers : PySem.W.nsIn K mainGlobals "exchanged_numbers" = some (some (.ref f4))) (l_exchanged_numbers : K.lookup f4 = some ⟨oc4, od4, .func (PySem.W.fnOf "exchanged_numbers" "exchanged_numbers" (defArgs s_exchanged_numbers) (defBody s_exchanged_numbers) (defScope s_exchanged_numbers) .none kV4 doc4 pm4 an4 cdv4 ct4), osl4⟩) (c_exchanged_numbers : PySem.W.codeIn K cdv4 "exchanged_numbers" = true) (k_exchanged_numbers : PySem.W.keepIn K (.ref f4) = true)
    (a_numbers_at : PySem.W.nsIn K mainGlobals "numbers_at" = some (some (.ref f5))) (l_numbers_at : K.lookup f5 = some ⟨oc5, od5, .func (PySem.W.fnOf "numbers_at" "numbers_at" (defArgs s_numbers_at) (defBody s_numbers_at) (defScope s_numbers_at) .none kV5 doc5 pm5 an5 cdv5 ct5), osl5⟩) (c_numbers_at : PySem.W.codeIn K cdv5 "numbers_at" = true) (k_numbers_at : PySem.W.keepIn K (.ref f5) = true)
    (a_curvatures_at : PySem.W.nsIn K mainGlobals "curvatures_at" = some (some (.ref f6))) (l_curvatures_at : K.lookup f6 = some ⟨oc6, od6, .func (PySem.W.fnOf "curvatures_at" "curvatures_at" (defArgs s_curvatures_at) (defBody s_curvatures_at) (defScope s_curvatures_at) .none kV6 doc6 pm6 an6 cdv6 ct6), osl6⟩) (c_curvatures_at : PySem.W.codeIn K cdv6 "curvatures_at" = true) (k_curvatures_at : PySem.W.keepIn K (.ref f6) = true)
    (a_made_row : PySem.W.nsIn K mainGlobals "made_row" = some (some (.ref f7))) (l_made_row : K.lookup f7 = some ⟨oc7, od7, .func (PySem.W.fnOf "made_row" "made_row" (defArgs s_made_row) (defBody s_made_row) (defScope s_made_row) .none kV7 doc7 pm7 an7 cdv7 ct7), osl7⟩) (c_made_row : PySem.W.codeIn K cdv7 "made_row" = true) (k_made_row : PySem.W.keepIn K (.ref f7) = true)
    (a_exchanged_rows : PySem.W.nsIn K mainGlobals "exchanged_rows" = some (some (.ref f8))) (l_exchanged_rows : K.lookup f8 = some ⟨oc8, od8, .func (PySem.W.fnOf "exchanged_rows" "exchanged_rows" (defArgs s_exchanged_rows) (defBody s_exchanged_rows) (defScope s_exchanged_rows) .none kV8 doc8 pm8 an8 cdv8 ct8), osl8⟩) (c_exchanged_rows : PySem.W.codeIn K cdv8 "exchanged_rows" = true) (k_exchanged_rows : PySem.W.keepIn K (.ref f8) = true)
    (a_rows_at : PySem.W.nsIn K mainGlobals "rows_at" = some (some (.ref f9))) (l_rows_at : K.lookup f9 = some ⟨oc9, od9, .func (PySem.W.fnOf "rows_at" "rows_at" (defArgs s_rows_at) (defBody s_rows_at) (defScope s_rows_at) .none kV9 doc9 pm9 an9 cdv9 ct9), osl9⟩) (c_rows_at : PySem.W.codeIn K cdv9 "rows_at" = true) (k_rows_at : PySem.W.keepIn K (.ref f9) = true)
    (a_matrix_of : PySem.W.nsIn K mainGlobals "matrix_of" = some (some (.ref f10))) (l_matrix_of : K.lookup f10 = some ⟨oc10, od10, .func (PySem.W.fnOf "matrix_of" "matrix_of" (defArgs s_matrix_of) (defBody s_matrix_of) (defScope s_matrix_of) .none kV10 doc10 pm10 an10 cdv10 ct10), osl10⟩) (c_matrix_of : PySem.W.codeIn K cdv10 "matrix_of" = true) (k_matrix_of : PySem.W.keepIn K (.ref f10) = true)
    (a_applied : PySem.W.nsIn K mainGlobals "applied" = some (some (.ref f11))) (l_applied : K.lookup f11 = some ⟨oc11, od11, .func (PySem.W.fnOf "applied" "applied" (defArgs s_applied) (defBody s_applied) (defScope s_applied) .none kV11 doc11 pm11 an11 cdv11 ct11), osl11⟩) (c_applied : PySem.W.codeIn K cdv11 "applied" = true) (k_applied : PySem.W.keepIn K (.ref f11) = true)
    (a_product : PySem.W.nsIn K mainGlobals "product" = some (some (.ref f12))) (l_product : K.lookup f12 = some ⟨oc12, od12, .func (PySem.W.fnOf "product" "product" (defArgs s_product) (defBody s_product) (defScope s_product) .none kV12 doc12 pm12 an12 cdv12 ct12), osl12⟩) (c_product : PySem.W.codeIn K cdv12 "product" = true) (k_product : PySem.W.keepIn K (.ref f12) = true)
    (a__law_row : PySem.W.nsIn K mainGlobals "_law_row" = some (some (.ref f13))) (l__law_row : K.lookup f13 = some ⟨oc13, od13, .func (PySem.W.fnOf "_law_row" "_law_row" (defArgs s__law_row) (defBody s__law_row) (defScope s__law_row) .none kV13 doc13 pm13 an13 cdv13 ct13), osl13⟩) (c__law_row : PySem.W.codeIn K cdv13 "_law_row" = true) (k__law_row : PySem.W.keepIn K (.ref f13) = true)
    (a__law_numbers : PySem.W.nsIn K mainGlobals "_law_numbers" = some (some (.ref f14))) (l__law_numbers : K.lookup f14 = some ⟨oc14, od14, .func (PySem.W.fnOf "_law_numbers" "_law_numbers" (defArgs s__law_numbers) (defBody s__law_numbers) (defScope s__law_numbers) .none kV14 doc14 pm14 an14 cdv14 ct14), osl14⟩) (c__law_numbers : PySem.W.codeIn K cdv14 "_law_numbers" = true) (k__law_numbers : PySem.W.keepIn K (.ref f14) = true)
    (a__law_word : PySem.W.nsIn K mainGlobals "_law_word" = some (some (.ref f15))) (l__law_word : K.lookup f15 = some ⟨oc15, od15, .func (PySem.W.fnOf "_law_word" "_law_word" (defArgs s__law_word) (defBody s__law_word) (defScope s__law_word) .none kV15 doc15 pm15 an15 cdv15 ct15), osl15⟩) (c__law_word : PySem.W.codeIn K cdv15 "_law_word" = true) (k__law_word : PySem.W.keepIn K (.ref f15) = true)
    (a__law_exchange : PySem.W.nsIn K mainGlobals "_law_exchange" = some (some (.ref f16))) (l__law_exchange : K.lookup f16 = some ⟨oc16, od16, .func (PySem.W.fnOf "_law_exchange" "_law_exchange" (defArgs s__law_exchange) (defBody s__law_exchange) (defScope s__law_exchange) .none kV16 doc16 pm16 an16 cdv16 ct16), osl16⟩) (c__law_exchange : PySem.W.codeIn K cdv16 "_law_exchange" = true) (k__law_exchange : PySem.W.keepIn K (.ref f16) = true)
    (a__law_quadruple : PySem.W.nsIn K mainGlobals "_law_quadruple" = some (some (.ref f17))) (l__law_quadruple : K.lookup f17 = some ⟨oc17, od17, .func (PySem.W.fnOf "_law_quadruple" "_law_quadruple" (defArgs s__law_quadruple) (defBody s__law_quadruple) (defScope s__law_quadruple) .none kV17 doc17 pm17 an17 cdv17 ct17), osl17⟩) (c__law_quadruple : PySem.W.codeIn K cdv17 "_law_quadruple" = true) (k__law_quadruple : PySem.W.keepIn K (.ref f17) = true)
    (a__law_matrix : PySem.W.nsIn K mainGlobals "_law_matrix" = some (some (.ref f18))) (l__law_matrix : K.lookup f18 = some ⟨oc18, od18, .func (PySem.W.fnOf "_law_matrix" "_law_matrix" (defArgs s__law_matrix) (defBody s__law_matrix) (defScope s__law_matrix) .none kV18 doc18 pm18 an18 cdv18 ct18), osl18⟩) (c__law_matrix : PySem.W.codeIn K cdv18 "_law_matrix" = true) (k__law_matrix : PySem.W.keepIn K (.ref f18) = true)
    (a_law : PySem.W.nsIn K mainGlobals "law" = some (some (.ref f19))) (l_law : K.lookup f19 = some ⟨oc19, od19, .func (PySem.W.fnOf "law" "law" (defArgs s_law) (defBody s_law) (defScope s_law) .none kV19 doc19 pm19 an19 cdv19 ct19), osl19⟩) (c_law : PySem.W.codeIn K cdv19 "law" = true) (k_law : PySem.W.keepIn K (.ref f19) = true)
    {ka_IDENTITY_0 : Addr} {ko_IDENTITY_0 : Option Addr} {kn_IDENTITY_0 : Nat} {ks_IDENTITY_0 : Array (Option Value)} {ka_IDENTITY_1 : Addr} {ko_IDENTITY_1 : Option Addr} {kn_IDENTITY_1 : Nat} {ks_IDENTITY_1 : Array (Option Value)} {kt_IDENTITY_8 : Tok} {kt_IDENTITY_9 : Tok} {kt_IDENTITY_10 : Tok} {kt_IDENTITY_11 : Tok} {ka_IDENTITY_2 : Addr} {ko_IDENTITY_2 : Option Addr} {kn_IDENTITY_2 : Nat} {ks_IDENTITY_2 : Array (Option Value)} {kt_IDENTITY_16 : Tok} {kt_IDENTITY_17 : Tok} {kt_IDENTITY_18 : Tok} {kt_IDENTITY_19 : Tok} {ka_IDENTITY_3 : Addr} {ko_IDENTITY_3 : Option Addr} {kn_IDENTITY_3 : Nat} {ks_IDENTITY_3 : Array (Option Value)} {kt_IDENTITY_24 : Tok} {kt_IDENTITY_25 : Tok} {kt_IDENTITY_26 : Tok} {kt_IDENTITY_27 : Tok} {ka_IDENTITY_4 : Addr} {ko_IDENTITY_4 : Option Addr} {kn_IDENTITY_4 : Nat} {ks_IDENTITY_4 : Array (Option Value)} {kt_IDENTITY_32 : Tok} {kt_IDENTITY_33 : Tok} {kt_IDENTITY_34 : Tok} {kt_IDENTITY_35 : Tok}
    (kg_IDENTITY : PySem.W.nsIn K mainGlobals "IDENTITY" = some (some (.ref ka_IDENTITY_0)))
    (kl_IDENTITY_0 : K.lookup ka_IDENTITY_0 = some ⟨.type "tuple", ko_IDENTITY_0, .seq (List.toArray [(.ref ka_IDENTITY_1), (.ref ka_IDENTITY_2), (.ref ka_IDENTITY_3), (.ref ka_IDENTITY_4)]) kn_IDENTITY_0, ks_IDENTITY_0⟩)
    (kl_IDENTITY_1 : K.lookup ka_IDENTITY_1 = some ⟨.type "tuple", ko_IDENTITY_1, .seq (List.toArray [(.int 1 kt_IDENTITY_8), (.int 0 kt_IDENTITY_9), (.int 0 kt_IDENTITY_10), (.int 0 kt_IDENTITY_11)]) kn_IDENTITY_1, ks_IDENTITY_1⟩)
    (kl_IDENTITY_2 : K.lookup ka_IDENTITY_2 = some ⟨.type "tuple", ko_IDENTITY_2, .seq (List.toArray [(.int 0 kt_IDENTITY_16), (.int 1 kt_IDENTITY_17), (.int 0 kt_IDENTITY_18), (.int 0 kt_IDENTITY_19)]) kn_IDENTITY_2, ks_IDENTITY_2⟩)
    (kl_IDENTITY_3 : K.lookup ka_IDENTITY_3 = some ⟨.type "tuple", ko_IDENTITY_3, .seq (List.toArray [(.int 0 kt_IDENTITY_24), (.int 0 kt_IDENTITY_25), (.int 1 kt_IDENTITY_26), (.int 0 kt_IDENTITY_27)]) kn_IDENTITY_3, ks_IDENTITY_3⟩)
    (kl_IDENTITY_4 : K.lookup ka_IDENTITY_4 = some ⟨.type "tuple", ko_IDENTITY_4, .seq (List.toArray [(.int 0 kt_IDENTITY_32), (.int 0 kt_IDENTITY_33), (.int 0 kt_IDENTITY_34), (.int 1 kt_IDENTITY_35)]) kn_IDENTITY_4, ks_IDENTITY_4⟩)
    (g_InvalidFour : PySem.W.nsIn K mainGlobals "InvalidFour" = some (some (.ref C_InvalidFour)))
    (g_InvalidWord : PySem.W.nsIn K mainGlobals "InvalidWord" = some (some (.ref C_InvalidWord)))
    (x_InvalidFour : PySem.W.excIn K C_InvalidFour [.type "ValueError", .type "Exception", .type "BaseException", .type "object"] "ValueError.__new__" = true) (q_InvalidFour : PySem.W.keepIn K (.ref C_InvalidFour) = true) (s_InvalidFour : PySem.W.subIn K (.ref C_InvalidFour) (.type "BaseException") = some true) (t_InvalidFour : PySem.W.typeIn K (.ref C_InvalidFour) = some (.type "type"))
    (x_InvalidWord : PySem.W.excIn K C_InvalidWord [.type "ValueError", .type "Exception", .type "BaseException", .type "object"] "ValueError.__new__" = true) (q_InvalidWord : PySem.W.keepIn K (.ref C_InvalidWord) = true) (s_InvalidWord : PySem.W.subIn K (.ref C_InvalidWord) (.type "BaseException") = some true) (t_InvalidWord : PySem.W.typeIn K (.ref C_InvalidWord) = some (.type "type"))
    : Txt K mg C_InvalidFour C_InvalidWord where
  z_tuple := PySem.W.mg_none_of X G z_tuple
  z_zip := PySem.W.mg_none_of X G z_zip
  z_sum := PySem.W.mg_none_of X G z_sum
  z_isinstance := PySem.W.mg_none_of X G z_isinstance
  z_bool := PySem.W.mg_none_of X G z_bool
  z_int := PySem.W.mg_none_of X G z_int
  z_list := PySem.W.mg_none_of X G z_list
  z_len := PySem.W.mg_none_of X G z_len
  z_abs := PySem.W.mg_none_of X G z_abs
  z_range := PySem.W.mg_none_of X G z_range
  z_max := PySem.W.mg_none_of X G z_max
  z_min := PySem.W.mg_none_of X G z_min
  z_repr := PySem.W.mg_none_of X G z_repr
  a_is_quadruple := At.mk' X G a_is_quadruple l_is_quadruple c_is_quadruple k_is_quadruple fun _ _ _ _ _ _ us hl => match us, hl with | [_], _ => rfl
  a_check_quadruple := At.mk' X G a_check_quadruple l_check_quadruple c_check_quadruple k_check_quadruple fun _ _ _ _ _ _ us hl => match us, hl with | [_], _ => rfl
  a_is_place := At.mk' X G a_is_place l_is_place c_is_place k_is_place fun _ _ _ _ _ _ us hl => match us, hl with | [_], _ => rfl
  a_check_word := At.mk' X G a_check_word l_check_word c_check_word k_check_word fun _ _ _ _ _ _ us hl => match us, hl with | [_], _ => rfl
  a_exchanged_numbers := At.mk' X G a_exchanged_numbers l_exchanged_numbers c_exchanged_numbers k_exchanged_numbers fun _ _ _ _ _ _ us hl => match us, hl with | [_, _], _ => rfl
  a_numbers_at := At.mk' X G a_numbers_at l_numbers_at c_numbers_at k_numbers_at fun _ _ _ _ _ _ us hl => match us, hl with | [_, _], _ => rfl
  a_curvatures_at := At.mk' X G a_curvatures_at l_curvatures_at c_curvatures_at k_curvatures_at fun _ _ _ _ _ _ us hl => match us, hl with | [_, _], _ => rfl
  a_made_row := At.mk' X G a_made_row l_made_row c_made_row k_made_row fun _ _ _ _ _ _ us hl => match us, hl with | [_, _], _ => rfl
  a_exchanged_rows := At.mk' X G a_exchanged_rows l_exchanged_rows c_exchanged_rows k_exchanged_rows fun _ _ _ _ _ _ us hl => match us, hl with | [_, _], _ => rfl
  a_rows_at := At.mk' X G a_rows_at l_rows_at c_rows_at k_rows_at fun _ _ _ _ _ _ us hl => match us, hl with | [_, _], _ => rfl
  a_matrix_of := At.mk' X G a_matrix_of l_matrix_of c_matrix_of k_matrix_of fun _ _ _ _ _ _ us hl => match us, hl with | [_], _ => rfl
  a_applied := At.mk' X G a_applied l_applied c_applied k_applied fun _ _ _ _ _ _ us hl => match us, hl with | [_, _], _ => rfl
  a_product := At.mk' X G a_product l_product c_product k_product fun _ _ _ _ _ _ us hl => match us, hl with | [_, _], _ => rfl
  a__law_row := At.mk' X G a__law_row l__law_row c__law_row k__law_row fun _ _ _ _ _ _ us hl => match us, hl with | [_, _], _ => rfl
  a__law_numbers := At.mk' X G a__law_numbers l__law_numbers c__law_numbers k__law_numbers fun _ _ _ _ _ _ us hl => match us, hl with | [_, _], _ => rfl
  a__law_word := At.mk' X G a__law_word l__law_word c__law_word k__law_word fun _ _ _ _ _ _ us hl => match us, hl with | [_, _, _], _ => rfl
  a__law_exchange := At.mk' X G a__law_exchange l__law_exchange c__law_exchange k__law_exchange fun _ _ _ _ _ _ us hl => match us, hl with | [_, _], _ => rfl
  a__law_quadruple := At.mk' X G a__law_quadruple l__law_quadruple c__law_quadruple k__law_quadruple fun _ _ _ _ _ _ us hl => match us, hl with | [_, _], _ => rfl
  a__law_matrix := At.mk' X G a__law_matrix l__law_matrix c__law_matrix k__law_matrix fun _ _ _ _ _ _ us hl => match us, hl with | [_], _ => rfl
  a_law := At.mk' X G a_law l_law c_law k_law fun _ _ _ _ _ _ us hl => match us, hl with | [_], _ => rfl
  k_IDENTITY := ⟨_, PySem.W.mg_of X G kg_IDENTITY, KT.tup kl_IDENTITY_0 (KTs.cons (KT.tup kl_IDENTITY_1 (KTs.cons (KT.int) (KTs.cons (KT.int) (KTs.cons (KT.int) (KTs.cons (KT.int) KTs.nil))))) (KTs.cons (KT.tup kl_IDENTITY_2 (KTs.cons (KT.int) (KTs.cons (KT.int) (KTs.cons (KT.int) (KTs.cons (KT.int) KTs.nil))))) (KTs.cons (KT.tup kl_IDENTITY_3 (KTs.cons (KT.int) (KTs.cons (KT.int) (KTs.cons (KT.int) (KTs.cons (KT.int) KTs.nil))))) (KTs.cons (KT.tup kl_IDENTITY_4 (KTs.cons (KT.int) (KTs.cons (KT.int) (KTs.cons (KT.int) (KTs.cons (KT.int) KTs.nil))))) KTs.nil))))⟩
  e_InvalidFour := ⟨x_InvalidFour, PySem.W.mg_of X G g_InvalidFour, q_InvalidFour, s_InvalidFour, t_InvalidFour⟩
  e_InvalidWord := ⟨x_InvalidWord, PySem.W.mg_of X G g_InvalidWord, q_InvalidWord, s_InvalidWord, t_InvalidWord⟩
  g_InvalidFour := PySem.W.mg_of X G g_InvalidFour
  g_InvalidWord := PySem.W.mg_of X G g_InvalidWord
end DL

namespace DL
open PySem L2
local macro_rules
  | `(tactic| simp_arith [$xs,*]) => `(tactic| simp (config := {failIfUnchanged := false}) only [o0, o1, o2, o3, o4, o5, o6, o7, o8, o9, o10, o11, o12, o13, o14, o15, o16, o17, o18, o19, o20, o21, o22, o23, o24, o25, o26, o27, o28, o29, o30, o31, o32, o33, o34, o35, o36, o37, o38, o39, o40, o41, o42, o43, o44, o45, o46, o47, o48, at_seq, at_skip, at_asg, own_new, at_own, at_drop, at_ret, at_retN, rO_own, at_retOwn, at_if, at_brk, at_cnt, at_raise, ooS_some, unp1_tup, at_unp, setAll_nil, setAll_cons, par1_ok, par1_err, at_par2, frz1_own, frz1_v, at_frz, app0_own, at_app, app1_ok, pop0_own, at_pop, clr0_own, at_clr, aug0_int, aug1_int, at_aug, at_for, for_nil, gnx_some, for_cons, at_gN, at_gU,  at_e1, at_e2, at_st, vO_v, vO_own, at_var, at_c, settle_non, settle_bl, settle_int, settle_str, settle_lst, settle_tup, settle_frz, settle_new, add_int, add_str, add_tup, add_lst_lst, add_lst_new, add_lst_bor, add_new_lst, add_new_new, add_new_bor, add_bor_lst, add_bor_new, add_bor_bor, sub_int, mul_r, mul_l, fdiv_p, mod_p, pow_p, neg_int, lt_int, le_int, gt_int, ge_int, is_bl, ni_bl, is_n_non, ni_n_non, is_n_bl, ni_n_bl, is_n_int, ni_n_int, is_n_str, ni_n_str, is_n_lst, ni_n_lst, is_n_tup, ni_n_tup, is_n_new, ni_n_new, is_n_bor, ni_n_bor, items_lst, len_lst, list_lst, tuple_lst, ix_lst, tru_lst, rev_lst, slice_lst, ty_lst, sum_lst, all_lst, any_lst, items_new, len_new, list_new, tuple_new, ix_new, tru_new, rev_new, slice_new, ty_new, sum_new, all_new, any_new, items_bor, len_bor, list_bor, tuple_bor, ix_bor, tru_bor, rev_bor, slice_bor, ty_bor, sum_bor, all_bor, any_bor, len_tup, len_frz, len_str, list_tup, list_frz, tuple_tup, ix_tup, tru_tup, tru_bl, tru_int, tru_non, slice_tup, slice_frz, revT_tup, int_int, int_bl, abs_int, max_int, min_int, blO_bl, ty_non, ty_bl, ty_int, ty_str, ty_tup, at_tst, at_tst0, nB_ok, nB_err, at_notB, at_andB, at_orB, at_andE, at_orE, nE_ok, nE_err, at_notE, at_ifE, at_nilA, at_consA, tupL_ok, lstL_ok, at_tup, at_lst, callL_0, callL_1, callL_2, callL_3, callL_4, callL_5, at_call, at_chK, at_ch2, at_ch0, chR_ok, at_ch, at_isi, obl_some, isi1_at, kit2_t, kit2_f, at_kitT2, slc_ok, at_slice, at_noO, soO_int, at_someO, sq1_tup, sq1_lst, bl1_ok, bl1_err, bl1_st, at_seqI, rg1_int, at_rng1, rg2_int, rg0_ok, at_rng2, lc0_ok, at_lc, wipe_nil, wipe_cons, at_yes, kitT_int_int, kitT_int_bool, kitT_int_str, kitT_int_list, kitT_int_tuple, kitT_int_none, kitT_bool_int, kitT_bool_bool, kitT_bool_str, kitT_bool_list, kitT_bool_tuple, kitT_bool_none, kitT_tuple_int, kitT_tuple_bool, kitT_tuple_str, kitT_tuple_list, kitT_tuple_tuple, kitT_tuple_none, kitT_list_int, kitT_list_bool, kitT_list_str, kitT_list_list, kitT_list_tuple, kitT_list_none, kitT_str_int, kitT_str_bool, kitT_str_str, kitT_str_list, kitT_str_tuple, kitT_str_none, eqD_int, neD_int, eqD_bl, neD_bl, List.map_cons, List.map_nil, List.replicate, List.cons_append, List.nil_append, List.set_cons_zero, List.set_cons_succ, List.getElem?_cons_zero, List.getElem?_cons_succ, List.length_cons, List.length_nil, List.length_map, List.length_range, bind_ok, bind_err, bind_st, ofO_some, ofO_none, then_ok, then_err, then_st, Option.bind_some, Option.bind_none, Option.map_some, Option.map_none, Nat.zero_add, Nat.reduceAdd, Nat.reduceLeDiff, Nat.reduceEqDiff, ite_true, ite_false, if_true, if_false, reduceIte, Bool.not_true, Bool.not_false, Bool.false_eq_true, decide_eq_true_eq, Bool.not_eq_true, Int.reduceLT, Int.reduceLE, Int.reduceNeg, Int.reduceToNat, Int.reducePow, Int.reduceEq, Int.reduceAdd, Int.reduceSub, Int.reduceMul, Nat.reduceLT, decide_true, decide_false, $xs,*])
local macro_rules
  | `(tactic| simp_arith) => `(tactic| simp (config := {failIfUnchanged := false}) only [o0, o1, o2, o3, o4, o5, o6, o7, o8, o9, o10, o11, o12, o13, o14, o15, o16, o17, o18, o19, o20, o21, o22, o23, o24, o25, o26, o27, o28, o29, o30, o31, o32, o33, o34, o35, o36, o37, o38, o39, o40, o41, o42, o43, o44, o45, o46, o47, o48, at_seq, at_skip, at_asg, own_new, at_own, at_drop, at_ret, at_retN, rO_own, at_retOwn, at_if, at_brk, at_cnt, at_raise, ooS_some, unp1_tup, at_unp, setAll_nil, setAll_cons, par1_ok, par1_err, at_par2, frz1_own, frz1_v, at_frz, app0_own, at_app, app1_ok, pop0_own, at_pop, clr0_own, at_clr, aug0_int, aug1_int, at_aug, at_for, for_nil, gnx_some, for_cons, at_gN, at_gU,  at_e1, at_e2, at_st, vO_v, vO_own, at_var, at_c, settle_non, settle_bl, settle_int, settle_str, settle_lst, settle_tup, settle_frz, settle_new, add_int, add_str, add_tup, add_lst_lst, add_lst_new, add_lst_bor, add_new_lst, add_new_new, add_new_bor, add_bor_lst, add_bor_new, add_bor_bor, sub_int, mul_r, mul_l, fdiv_p, mod_p, pow_p, neg_int, lt_int, le_int, gt_int, ge_int, is_bl, ni_bl, is_n_non, ni_n_non, is_n_bl, ni_n_bl, is_n_int, ni_n_int, is_n_str, ni_n_str, is_n_lst, ni_n_lst, is_n_tup, ni_n_tup, is_n_new, ni_n_new, is_n_bor, ni_n_bor, items_lst, len_lst, list_lst, tuple_lst, ix_lst, tru_lst, rev_lst, slice_lst, ty_lst, sum_lst, all_lst, any_lst, items_new, len_new, list_new, tuple_new, ix_new, tru_new, rev_new, slice_new, ty_new, sum_new, all_new, any_new, items_bor, len_bor, list_bor, tuple_bor, ix_bor, tru_bor, rev_bor, slice_bor, ty_bor, sum_bor, all_bor, any_bor, len_tup, len_frz, len_str, list_tup, list_frz, tuple_tup, ix_tup, tru_tup, tru_bl, tru_int, tru_non, slice_tup, slice_frz, revT_tup, int_int, int_bl, abs_int, max_int, min_int, blO_bl, ty_non, ty_bl, ty_int, ty_str, ty_tup, at_tst, at_tst0, nB_ok, nB_err, at_notB, at_andB, at_orB, at_andE, at_orE, nE_ok, nE_err, at_notE, at_ifE, at_nilA, at_consA, tupL_ok, lstL_ok, at_tup, at_lst, callL_0, callL_1, callL_2, callL_3, callL_4, callL_5, at_call, at_chK, at_ch2, at_ch0, chR_ok, at_ch, at_isi, obl_some, isi1_at, kit2_t, kit2_f, at_kitT2, slc_ok, at_slice, at_noO, soO_int, at_someO, sq1_tup, sq1_lst, bl1_ok, bl1_err, bl1_st, at_seqI, rg1_int, at_rng1, rg2_int, rg0_ok, at_rng2, lc0_ok, at_lc, wipe_nil, wipe_cons, at_yes, kitT_int_int, kitT_int_bool, kitT_int_str, kitT_int_list, kitT_int_tuple, kitT_int_none, kitT_bool_int, kitT_bool_bool, kitT_bool_str, kitT_bool_list, kitT_bool_tuple, kitT_bool_none, kitT_tuple_int, kitT_tuple_bool, kitT_tuple_str, kitT_tuple_list, kitT_tuple_tuple, kitT_tuple_none, kitT_list_int, kitT_list_bool, kitT_list_str, kitT_list_list, kitT_list_tuple, kitT_list_none, kitT_str_int, kitT_str_bool, kitT_str_str, kitT_str_list, kitT_str_tuple, kitT_str_none, eqD_int, neD_int, eqD_bl, neD_bl, List.map_cons, List.map_nil, List.replicate, List.cons_append, List.nil_append, List.set_cons_zero, List.set_cons_succ, List.getElem?_cons_zero, List.getElem?_cons_succ, List.length_cons, List.length_nil, List.length_map, List.length_range, bind_ok, bind_err, bind_st, ofO_some, ofO_none, then_ok, then_err, then_st, Option.bind_some, Option.bind_none, Option.map_some, Option.map_none, Nat.zero_add, Nat.reduceAdd, Nat.reduceLeDiff, Nat.reduceEqDiff, ite_true, ite_false, if_true, if_false, reduceIte, Bool.not_true, Bool.not_false, Bool.false_eq_true, decide_eq_true_eq, Bool.not_eq_true, Int.reduceLT, Int.reduceLE, Int.reduceNeg, Int.reduceToNat, Int.reducePow, Int.reduceEq, Int.reduceAdd, Int.reduceSub, Int.reduceMul, Nat.reduceLT, decide_true, decide_false])
theorem due_el {m : Mx} {r : Qd} (h : Sq r) (s0 s1 s2 s3 s4 s6 s7 s9 : Slot) : (e1 tupleD (lcE (rng1I (cE (.int 4))) [11] (gN 11) yesB le_law_1)) [s0, s1, s2, s3, s4, .v (TM m), s6, s7, .v (Tq r), s9, .un, .un] = .ok (Tq (apl (tr m) r)) := by
  obtain ⟨h1, h2, h3, h4, h5, h6, h7, h8⟩ := h
  have e1 : r.1 * m.a.1 + r.2.1 * m.b.1 + r.2.2.1 * m.c.1 + r.2.2.2 * m.d.1 = dot (tr m).a r := dot_comm r (tr m).a
  have e2 : r.1 * m.a.2.1 + r.2.1 * m.b.2.1 + r.2.2.1 * m.c.2.1 + r.2.2.2 * m.d.2.1 = dot (tr m).b r := dot_comm r (tr m).b
  have e3 : r.1 * m.a.2.2.1 + r.2.1 * m.b.2.2.1 + r.2.2.1 * m.c.2.2.1 + r.2.2.2 * m.d.2.2.1 = dot (tr m).c r := dot_comm r (tr m).c
  have e4 : r.1 * m.a.2.2.2 + r.2.1 * m.b.2.2.2 + r.2.2.1 * m.c.2.2.2 + r.2.2.2 * m.d.2.2.2 = dot (tr m).d r := dot_comm r (tr m).d
  simp_arith [at_run, at_retF, rtF_new, rtF_lst, rtF_tup, rtF_int, rtF_str, rtF_bl, rtF_non, rtF_frz, rtF_obj, rN_own, at_retOwnN, at_wp, wp_nx, wp_bk, wp_ct, wp_er, wp_rt, Nat.zero_le, rng4, lc_cons, lc_nil, lcS_some, sure_ok, le_law_1, le_law_0, at4_0, at4_1, at4_2, at4_3, mul_l, h1, h2, h3, h4, h5, h6, h7, h8, sum4n, e1, e2, e3, e4, apl]
theorem k16_law (C C2 : Addr) (ns : List Int) (hn : ns.length ≤ 63) : F_law C C2 [.frz ns] = .ok (.bl true) := by
  obtain ⟨L, l1, l2, l3⟩ := ln_ok ns hn 60 (by decide) (by decide)
  have l4 : L.length = 60 := by omega
  obtain ⟨q, q1, q2⟩ := lqd_ok L l3 (by omega)
  have hg : ∀ (k : Int), 0 ≤ k → k < 60 → L2.atI (il L) k = some (.int (L.getD k.toNat 0)) := fun k h0 h1 => atI_ints h0 (by omega)
  have a30 := hg 30 (by decide) (by decide)
  have a31 := hg 31 (by decide) (by decide)
  have a50 := hg 50 (by decide) (by decide)
  have a51 := hg 51 (by decide) (by decide)
  have a52 := hg 52 (by decide) (by decide)
  have a53 := hg 53 (by decide) (by decide)
  simp only [Int.reduceToNat] at a30 a31 a50 a51 a52 a53
  have hm := Int.emod_nonneg (L.getD 30 0) (show (8 : Int) ≠ 0 by decide)
  have hm2 := Int.emod_lt_of_pos (L.getD 30 0) (show (0 : Int) < 8 by decide)
  have hp := Int.emod_nonneg (L.getD 31 0) (show (8 : Int) ≠ 0 by decide)
  have hp2 := Int.emod_lt_of_pos (L.getD 31 0) (show (0 : Int) < 8 by decide)
  obtain ⟨A, A1, A2, A3⟩ := lw_ok L l3 20 (L.getD 30 0 % 8) (by decide) hm (by omega) (by omega)
  obtain ⟨B, B1, B2, B3⟩ := lw_ok L l3 40 (L.getD 31 0 % 8) (by decide) hp (by omega) (by omega)
  have f1 := mo_ok C2 (.l A) A3
  have g1 := mo_ok C2 (.t B) B3
  have x1 := lmx_ok A3
  have AB : W4 (A ++ B) := fun x hx => (List.mem_append.mp hx).elim (A3 x) (B3 x)
  have x2 := lmx_ok AB
  rw [il, List.map_append] at x2
  have bA := mo_bd (k := 7) A3 (by omega)
  have bB := mo_bd (k := 7) B3 (by omega)
  have p7 : (7 : Int) ^ 7 = 823543 := by decide
  rw [p7] at bA bB
  have ap1 := ap_ok (.t (mo A)) (.l q) (bA.sm (by decide))
  rw [mo_apl A3] at ap1
  have ct := cat2_ok C C2 (e := Tq q) (.t (lq q)) (.t A) A3 q2 (by decide)
  have pr := pr_ok (.t (mo B)) (bA.tr.sm (by decide))
  rw [mo_mul B3] at pr
  have fnA := bA.fn (by decide)
  have oA := fnA.okR (by decide) (by decide)
  have bl := (q2.bdq.last A3).le (show _ ≤ (823543 * 1000000 : Int) by
    have : (7 : Int) ^ A.length ≤ 7 ^ 7 := pow7 (by omega)
    rw [p7] at this
    exact Int.mul_le_mul_of_nonneg_right this (by decide))
  have ol := (bl.fn (by decide)).okR (by decide) (by decide)
  have bAB := mo_bd (k := 14) AB (by rw [List.length_append]; omega)
  have fnAB := bAB.fn (by decide)
  have oAB := fnAB.okR (by decide) (by decide)
  have neAB := fnAB.ne (by decide)
  have d1 := fun s4 s6 s7 s9 => due_el (m := mo A) (bB.a.sq (by decide)) (.v (.frz ns)) (.v (.lst (il L))) (.v (Tq q)) (.v (.tup (il A))) s4 s6 s7 s9
  have d2 := fun s4 s6 s7 s9 => due_el (m := mo A) (bB.b.sq (by decide)) (.v (.frz ns)) (.v (.lst (il L))) (.v (Tq q)) (.v (.tup (il A))) s4 s6 s7 s9
  have d3 := fun s4 s6 s7 s9 => due_el (m := mo A) (bB.c.sq (by decide)) (.v (.frz ns)) (.v (.lst (il L))) (.v (Tq q)) (.v (.tup (il A))) s4 s6 s7 s9
  have d4 := fun s4 s6 s7 s9 => due_el (m := mo A) (bB.d.sq (by decide)) (.v (.frz ns)) (.v (.lst (il L))) (.v (Tq q)) (.v (.tup (il A))) s4 s6 s7 s9
  have ms : (⟨apl (tr (mo A)) (mo B).a, apl (tr (mo A)) (mo B).b, apl (tr (mo A)) (mo B).c, apl (tr (mo A)) (mo B).d⟩ : Mx) = mo (A ++ B) := mo_mul B3
  have msD : D.tup [Tq (apl (tr (mo A)) (mo B).a), Tq (apl (tr (mo A)) (mo B).b), Tq (apl (tr (mo A)) (mo B).c), Tq (apl (tr (mo A)) (mo B).d)] = TM (mo (A ++ B)) := by rw [← ms]
  -- drawn numbers
  have yb : ∀ z : Int, -20 ≤ z % 41 - 20 ∧ z % 41 - 20 ≤ 20 := fun z => by
    have := Int.emod_nonneg z (show (41 : Int) ≠ 0 by decide)
    have := Int.emod_lt_of_pos z (show (0 : Int) < 41 by decide)
    omega
  generalize hx : ((L.getD 50 0 % 41 - 20, L.getD 51 0 % 41 - 20, L.getD 52 0 % 41 - 20, L.getD 53 0 % 41 - 20) : Qd) = x
  have xb : Bd 20 x := by rw [← hx]; exact ⟨yb _, yb _, yb _, yb _⟩
  have ap2 := ap_ok (.t (mo A)) (.l x) (bA.sm (by decide))
  have fx := ((bA.apl xb).fn (by decide)).eq (by decide)
  have sA := bA.sm (by decide)
  have el : ∀ (r : Qd), Sq r → ∀ s4 s6 s7, le_law_4 [.v (.frz ns), .v (.lst (il L)), .v (Tq q), .v (.tup (il A)), s4, .v (TM (mo A)), s6, s7, .v (Tq r), .v (.lst [.int x.1, .int x.2.1, .int x.2.2.1, .int x.2.2.2]), .un, .un] = .ok (.int (dot r x)) := fun r h s4 s6 s7 => by
    obtain ⟨h1, h2, h3, h4, h5, h6, h7, h8⟩ := h
    simp_arith [at_run, at_retF, rtF_new, rtF_lst, rtF_tup, rtF_int, rtF_str, rtF_bl, rtF_non, rtF_frz, rtF_obj, rN_own, at_retOwnN, at_wp, wp_nx, wp_bk, wp_ct, wp_er, wp_rt, Nat.zero_le, rng4, lc_cons, lc_nil, lcS_some, sure_ok, le_law_3, le_law_4, at4_0, at4_1, at4_2, at4_3, mul_l, h1, h2, h3, h4, h5, h6, h7, h8, sum4n, dot]
  have t1 := el _ sA.a
  have t2 := el _ sA.b
  have t3 := el _ sA.c
  have t4 := el _ sA.d
  show (b_law C C2 _).run = _
  have main : b_law C C2 [.v (.frz ns), .un, .un, .un, .un, .un, .un, .un, .un, .un, .un, .un] = .rt (.bl true) := by
    refine next_ok (ρ' := [.v (.frz ns), .v (.lst (il L)), .un, .un, .un, .un, .un, .un, .un, .un, .un, .un]) (by simp_arith [at_run, at_retF, rtF_new, rtF_lst, rtF_tup, rtF_int, rtF_str, rtF_bl, rtF_non, rtF_frz, rtF_obj, rN_own, at_retOwnN, at_wp, wp_nx, wp_bk, wp_ct, wp_er, wp_rt, Nat.zero_le, l1]) ?_
    refine next_ok (ρ' := [.v (.frz ns), .v (.lst (il L)), .v (Tq q), .un, .un, .un, .un, .un, .un, .un, .un, .un]) (by simp_arith [at_run, at_retF, rtF_new, rtF_lst, rtF_tup, rtF_int, rtF_str, rtF_bl, rtF_non, rtF_frz, rtF_obj, rN_own, at_retOwnN, at_wp, wp_nx, wp_bk, wp_ct, wp_er, wp_rt, Nat.zero_le, q1]) ?_
    refine next_ok (ρ' := [.v (.frz ns), .v (.lst (il L)), .v (Tq q), .v (.tup (il A)), .un, .un, .un, .un, .un, .un, .un, .un]) (by simp_arith [at_run, at_retF, rtF_new, rtF_lst, rtF_tup, rtF_int, rtF_str, rtF_bl, rtF_non, rtF_frz, rtF_obj, rN_own, at_retOwnN, at_wp, wp_nx, wp_bk, wp_ct, wp_er, wp_rt, Nat.zero_le, a30, A1]) ?_
    refine next_ok (ρ' := [.v (.frz ns), .v (.lst (il L)), .v (Tq q), .v (.tup (il A)), .v (.tup (il B)), .un, .un, .un, .un, .un, .un, .un]) (by simp_arith [at_run, at_retF, rtF_new, rtF_lst, rtF_tup, rtF_int, rtF_str, rtF_bl, rtF_non, rtF_frz, rtF_obj, rN_own, at_retOwnN, at_wp, wp_nx, wp_bk, wp_ct, wp_er, wp_rt, Nat.zero_le, a31, B1]) ?_
    refine next_ok (ρ' := [.v (.frz ns), .v (.lst (il L)), .v (Tq q), .v (.tup (il A)), .v (.tup (il B)), .v (TM (mo A)), .un, .un, .un, .un, .un, .un]) (by simp_arith [at_run, at_retF, rtF_new, rtF_lst, rtF_tup, rtF_int, rtF_str, rtF_bl, rtF_non, rtF_frz, rtF_obj, rN_own, at_retOwnN, at_wp, wp_nx, wp_bk, wp_ct, wp_er, wp_rt, Nat.zero_le, f1]) ?_
    refine next_ok (ρ' := [.v (.frz ns), .v (.lst (il L)), .v (Tq q), .v (.tup (il A)), .v (.tup (il B)), .v (TM (mo A)), .v (TM (mo B)), .un, .un, .un, .un, .un]) (by simp_arith [at_run, at_retF, rtF_new, rtF_lst, rtF_tup, rtF_int, rtF_str, rtF_bl, rtF_non, rtF_frz, rtF_obj, rN_own, at_retOwnN, at_wp, wp_nx, wp_bk, wp_ct, wp_er, wp_rt, Nat.zero_le, g1]) ?_
    refine next_ok (ρ' := [.v (.frz ns), .v (.lst (il L)), .v (Tq q), .v (.tup (il A)), .v (.tup (il B)), .v (TM (mo A)), .v (TM (mo B)), .un, .un, .un, .un, .un]) (by
      simp_arith [at_run, at_retF, rtF_new, rtF_lst, rtF_tup, rtF_int, rtF_str, rtF_bl, rtF_non, rtF_frz, rtF_obj, rN_own, at_retOwnN, at_wp, wp_nx, wp_bk, wp_ct, wp_er, wp_rt, Nat.zero_le, x1, ap1, ct, okR_repr oA, ne_shown oA, okR_repr ol, ne_shown ol]) ?_
    refine next_ok (ρ' := [.v (.frz ns), .v (.lst (il L)), .v (Tq q), .v (.tup (il A)), .v (.tup (il B)), .v (TM (mo A)), .v (TM (mo B)), .own [], .un, .un, .un, .un]) (by simp_arith [at_run, at_retF, rtF_new, rtF_lst, rtF_tup, rtF_int, rtF_str, rtF_bl, rtF_non, rtF_frz, rtF_obj, rN_own, at_retOwnN, at_wp, wp_nx, wp_bk, wp_ct, wp_er, wp_rt, Nat.zero_le]) ?_
    refine next_ok (ρ' := [.v (.frz ns), .v (.lst (il L)), .v (Tq q), .v (.tup (il A)), .v (.tup (il B)), .v (TM (mo A)), .v (TM (mo B)), .own [Tq (apl (tr (mo A)) (mo B).a), Tq (apl (tr (mo A)) (mo B).b), Tq (apl (tr (mo A)) (mo B).c), Tq (apl (tr (mo A)) (mo B).d)], .un, .un, .un, .un]) (by
      have step : ∀ (r : Qd) (acc : List D), acc.length < 10 → (∀ s4 s6 s7 s9, (e1 tupleD (lcE (rng1I (cE (.int 4))) [11] (gN 11) yesB le_law_1)) [.v (.frz ns), .v (.lst (il L)), .v (Tq q), .v (.tup (il A)), s4, .v (TM (mo A)), s6, s7, .v (Tq r), s9, .un, .un] = .ok (Tq (apl (tr (mo A)) r))) →
          lb_law_0 [.v (.frz ns), .v (.lst (il L)), .v (Tq q), .v (.tup (il A)), .v (.tup (il B)), .v (TM (mo A)), .v (TM (mo B)), .own acc, .v (Tq r), .un, .un, .un] = .nx [.v (.frz ns), .v (.lst (il L)), .v (Tq q), .v (.tup (il A)), .v (.tup (il B)), .v (TM (mo A)), .v (TM (mo B)), .own (acc ++ [Tq (apl (tr (mo A)) r)]), .un, .un, .un, .un] := fun r acc hl he => by
        have h1 : stE (e1 tupleD (lcE (rng1I (cE (.int 4))) [11] (gN 11) yesB le_law_1)) [.v (.frz ns), .v (.lst (il L)), .v (Tq q), .v (.tup (il A)), .v (.tup (il B)), .v (TM (mo A)), .v (TM (mo B)), .own acc, .v (Tq r), .un, .un, .un] = .ok (Tq (apl (tr (mo A)) r)) := by
          rw [at_st, he]; rfl
        have h2 : acc.length < 16777216 := by omega
        unfold lb_law_0
        rw [at_wp, at_app]
        simp only [List.getElem?_cons_succ, List.getElem?_cons_zero, app0_own, h1, then_ok, app1_ok h2]
        rfl
      have s1 := step _ [] (by simp) d1
      have s2 := step _ [Tq (apl (tr (mo A)) (mo B).a)] (by simp) d2
      have s3 := step _ [Tq (apl (tr (mo A)) (mo B).a), Tq (apl (tr (mo A)) (mo B).b)] (by simp) d3
      have s4 := step _ [Tq (apl (tr (mo A)) (mo B).a), Tq (apl (tr (mo A)) (mo B).b), Tq (apl (tr (mo A)) (mo B).c)] (by simp) d4
      simp only [List.nil_append, List.cons_append] at s1 s2 s3 s4
      simp_arith [at_run, at_retF, rtF_new, rtF_lst, rtF_tup, rtF_int, rtF_str, rtF_bl, rtF_non, rtF_frz, rtF_obj, rN_own, at_retOwnN, at_wp, wp_nx, wp_bk, wp_ct, wp_er, wp_rt, Nat.zero_le, s1, s2, s3, s4]) ?_
    refine frz_ok rfl ?_
    refine next_ok (ρ' := [.v (.frz ns), .v (.lst (il L)), .v (Tq q), .v (.tup (il A)), .v (.tup (il B)), .v (TM (mo A)), .v (TM (mo B)), .v (.lst [Tq (apl (tr (mo A)) (mo B).a), Tq (apl (tr (mo A)) (mo B).b), Tq (apl (tr (mo A)) (mo B).c), Tq (apl (tr (mo A)) (mo B).d)]), .un, .un, .un, .un]) (by
      have hl : A.length + B.length ≤ 16777216 := by omega
      simp_arith [at_run, at_retF, rtF_new, rtF_lst, rtF_tup, rtF_int, rtF_str, rtF_bl, rtF_non, rtF_frz, rtF_obj, rN_own, at_retOwnN, at_wp, wp_nx, wp_bk, wp_ct, wp_er, wp_rt, Nat.zero_le, pr, msD, x2, okR_repr oAB, ne_shown oAB, neAB, add_tup, hl]) ?_
    refine next_ok (ρ' := [.v (.frz ns), .v (.lst (il L)), .v (Tq q), .v (.tup (il A)), .v (.tup (il B)), .v (TM (mo A)), .v (TM (mo B)), .v (.lst [Tq (apl (tr (mo A)) (mo B).a), Tq (apl (tr (mo A)) (mo B).b), Tq (apl (tr (mo A)) (mo B).c), Tq (apl (tr (mo A)) (mo B).d)]), .un, .v (.lst [.int x.1, .int x.2.1, .int x.2.2.1, .int x.2.2.2]), .un, .un]) (by
      rw [← hx]
      simp_arith [at_run, at_retF, rtF_new, rtF_lst, rtF_tup, rtF_int, rtF_str, rtF_bl, rtF_non, rtF_frz, rtF_obj, rN_own, at_retOwnN, at_wp, wp_nx, wp_bk, wp_ct, wp_er, wp_rt, Nat.zero_le, rng4, lc_cons, lc_nil, lcS_some, sure_ok, le_law_2, a50, a51, a52, a53]) ?_
    simp only [apl] at ap2 fx
    simp_arith [at_run, at_retF, rtF_new, rtF_lst, rtF_tup, rtF_int, rtF_str, rtF_bl, rtF_non, rtF_frz, rtF_obj, rN_own, at_retOwnN, at_wp, wp_nx, wp_bk, wp_ct, wp_er, wp_rt, Nat.zero_le, ap2, lc_cons, lc_nil, lcS_some, sure_ok, t1, t2, t3, t4, fx]
  exact congrArg Out.run main
theorem law_true {C C2 : Addr} (ns : List Int) (hns : ns.length ≤ 63) : F_law C C2 [.frz ns] = .ok (.bl true) := k16_law C C2 ns hns
end DL

open PySem PySem.W PyProof.Rows in
set_option maxRecDepth 100000 in
set_option maxHeartbeats 0 in
theorem PySem.Challenge.cw_fourtouch_k16_matrices_of_words_holds : PySem.Challenge.rw_fourtouch_k16_matrices_of_words.Holds := by
  w_on; o_law; k_head; (case hw => w_witness2)
  k_fill
  refine DL.lawG (l := PySem.Challenge.rw_fourtouch_k16_matrices_of_words) (k := 5) (x := "script") (n := 63) rfl (by decide) rfl ⟨rfl, by decide, by decide⟩ (fun w h Y => PySem.W.kIn_of Y) ?F
  case F =>
    intro w mg fa h KX G hmg
    refine' ⟨_, DL.law_true, DL.w_law (DL.txt_mk KX G ?z_tuple ?z_zip ?z_sum ?z_isinstance ?z_bool ?z_int ?z_list ?z_len ?z_abs ?z_range ?z_max ?z_min ?z_repr ?a_is_quadruple ?l_is_quadruple ?c_is_quadruple ?k_is_quadruple ?a_check_quadruple ?l_check_quadruple ?c_check_quadruple ?k_check_quadruple ?a_is_place ?l_is_place ?c_is_place ?k_is_place ?a_check_word ?l_check_word ?c_check_word ?k_check_word ?a_exchanged_numbers ?l_exchanged_numbers ?c_exchanged_numbers ?k_exchanged_numbers ?a_numbers_at ?l_numbers_at ?c_numbers_at ?k_numbers_at ?a_curvatures_at ?l_curvatures_at ?c_curvatures_at ?k_curvatures_at ?a_made_row ?l_made_row ?c_made_row ?k_made_row ?a_exchanged_rows ?l_exchanged_rows ?c_exchanged_rows ?k_exchanged_rows ?a_rows_at ?l_rows_at ?c_rows_at ?k_rows_at ?a_matrix_of ?l_matrix_of ?c_matrix_of ?k_matrix_of ?a_applied ?l_applied ?c_applied ?k_applied ?a_product ?l_product ?c_product ?k_product ?a__law_row ?l__law_row ?c__law_row ?k__law_row ?a__law_numbers ?l__law_numbers ?c__law_numbers ?k__law_numbers ?a__law_word ?l__law_word ?c__law_word ?k__law_word ?a__law_exchange ?l__law_exchange ?c__law_exchange ?k__law_exchange ?a__law_quadruple ?l__law_quadruple ?c__law_quadruple ?k__law_quadruple ?a__law_matrix ?l__law_matrix ?c__law_matrix ?k__law_matrix ?a_law ?l_law ?c_law ?k_law ?kg_IDENTITY ?kl_IDENTITY_0 ?kl_IDENTITY_1 ?kl_IDENTITY_2 ?kl_IDENTITY_3 ?kl_IDENTITY_4 ?g_InvalidFour ?g_InvalidWord ?x_InvalidFour ?q_InvalidFour ?s_InvalidFour ?t_InvalidFour ?x_InvalidWord ?q_InvalidWord ?s_InvalidWord ?t_InvalidWord) hmg⟩
    (case z_tuple => k_is)
    (case z_zip => k_is)
    (case z_sum => k_is)
    (case z_isinstance => k_is)
    (case z_bool => k_is)
    (case z_int => k_is)
    (case z_list => k_is)
    (case z_len => k_is)
    (case z_abs => k_is)
    (case z_range => k_is)
    (case z_max => k_is)
    (case z_min => k_is)
    (case z_repr => k_is)
    (case g_InvalidFour => k_is)
    (case g_InvalidWord => k_is)
    (case a_is_quadruple => k_is); (case l_is_quadruple => k_is); (case c_is_quadruple => k_is); (case k_is_quadruple => k_is)
    (case a_check_quadruple => k_is); (case l_check_quadruple => k_is); (case c_check_quadruple => k_is); (case k_check_quadruple => k_is)
    (case a_is_place => k_is); (case l_is_place => k_is); (case c_is_place => k_is); (case k_is_place => k_is)
    (case a_check_word => k_is); (case l_check_word => k_is); (case c_check_word => k_is); (case k_check_word => k_is)
    (case a_exchanged_numbers => k_is); (case l_exchanged_numbers => k_is); (case c_exchanged_numbers => k_is); (case k_exchanged_numbers => k_is)
    (case a_numbers_at => k_is); (case l_numbers_at => k_is); (case c_numbers_at => k_is); (case k_numbers_at => k_is)
    (case a_curvatures_at => k_is); (case l_curvatures_at => k_is); (case c_curvatures_at => k_is); (case k_curvatures_at => k_is)
    (case a_made_row => k_is); (case l_made_row => k_is); (case c_made_row => k_is); (case k_made_row => k_is)
    (case a_exchanged_rows => k_is); (case l_exchanged_rows => k_is); (case c_exchanged_rows => k_is); (case k_exchanged_rows => k_is)
    (case a_rows_at => k_is); (case l_rows_at => k_is); (case c_rows_at => k_is); (case k_rows_at => k_is)
    (case a_matrix_of => k_is); (case l_matrix_of => k_is); (case c_matrix_of => k_is); (case k_matrix_of => k_is)
    (case a_applied => k_is); (case l_applied => k_is); (case c_applied => k_is); (case k_applied => k_is)
    (case a_product => k_is); (case l_product => k_is); (case c_product => k_is); (case k_product => k_is)
    (case a__law_row => k_is); (case l__law_row => k_is); (case c__law_row => k_is); (case k__law_row => k_is)
    (case a__law_numbers => k_is); (case l__law_numbers => k_is); (case c__law_numbers => k_is); (case k__law_numbers => k_is)
    (case a__law_word => k_is); (case l__law_word => k_is); (case c__law_word => k_is); (case k__law_word => k_is)
    (case a__law_exchange => k_is); (case l__law_exchange => k_is); (case c__law_exchange => k_is); (case k__law_exchange => k_is)
    (case a__law_quadruple => k_is); (case l__law_quadruple => k_is); (case c__law_quadruple => k_is); (case k__law_quadruple => k_is)
    (case a__law_matrix => k_is); (case l__law_matrix => k_is); (case c__law_matrix => k_is); (case k__law_matrix => k_is)
    (case a_law => k_is); (case l_law => k_is); (case c_law => k_is); (case k_law => k_is)
    (case kg_IDENTITY => k_is)
    (case kl_IDENTITY_0 => k_is)
    (case kl_IDENTITY_1 => k_is)
    (case kl_IDENTITY_2 => k_is)
    (case kl_IDENTITY_3 => k_is)
    (case kl_IDENTITY_4 => k_is)
    (case x_InvalidFour => k_exc); (case q_InvalidFour => k_is); (case s_InvalidFour => k_is); (case t_InvalidFour => k_is)
    (case x_InvalidWord => k_exc); (case q_InvalidWord => k_is); (case s_InvalidWord => k_is); (case t_InvalidWord => k_is)
