import PyProof.Rows.All
import Wide.All
import OpenK.AllK
import Wide.FinOn
import HandS.Base
import HandS.Call
import HandS.List
import HandS.Comp
import HandS.Ends
import HandS.Iter
import HandS.Words
import HandS.Exc
import HandS.ExcOwn
import HandS.TryOnly
import PyProof.ReprRoads
import PyProof.ReprLen
import HandS.EndBits
import HandS.IsInst
import HandS.Sort
import KE.BitLaws
import HandS.ExcIs
import KE.RegKIsAll
import HandS.Style
import KE.SortData
import KE.DataCmp
import HandS.Deep
import HandS.Conv
import PySem.Challenge.RW_edenrow_k09_whole_compositions_act_on_ro
set_option Elab.async false
set_option linter.all false
set_option maxRecDepth 100000
set_option maxHeartbeats 4000000
namespace Ed
open PySem PySem.Spec PyProof.Rows L2

/-! ### heaps that grow -/
def Ex (H H' : Hp) : Prop := ∀ a o, H a = some o → H' a = some o
theorem Ex.refl (H : Hp) : Ex H H := fun _ _ h => h
theorem Ex.trans {H H1 H2 : Hp} (a : Ex H H1) (b : Ex H1 H2) : Ex H H2 := fun x o h => b x o (a x o h)
theorem Ex.new {H : Hp} {p : Addr} {o : HO} (h : H p = none) : Ex H (upd H p o) := fun a u e => by
  rw [upd_ne (ne_of_none e h)]; exact e
theorem Ex.back {H H' : Hp} {p : Addr} (e : Ex H H') (h : H' p = none) : H p = none := by
  cases q : H p with
  | none => rfl
  | some o => rw [e p o q] at h; cases h
theorem Ex.mut {H H' : Hp} {p : Addr} {o : HO} (e : Ex H H') (h : H p = none) : Ex H (upd H' p o) := fun a u ha => by
  rw [upd_ne (ne_of_none ha h)]; exact e a u ha
theorem Ex.sqL {K : PySem.W.Frag} {H H' : Hp} {a : Addr} {xs : List V} (e : Ex H H') (h : SqL K H a xs) : SqL K H' a xs := by
  rcases h with (h | ⟨o, h⟩) | h
  · exact .inl (.inl (e _ _ h))
  · exact .inl (.inr ⟨o, e _ _ h⟩)
  · exact .inr h

/-! ### data -/
abbrev D := PyData
mutual
inductive Dv (H : Hp) : V → D → Prop
  | non : Dv H .non .none
  | bl (b : Bool) : Dv H (.bl b) (.bool b)
  | int (i : Int) : Dv H (.int i) (.int i)
  | str (x : Str) : Dv H (.str x) (.str x)
  | lst {a : Addr} {xs : List V} {ds : List D} : H a = some (.lst xs) → DvAll H xs ds → Dv H (.ref a) (.list ds)
  | tup {a : Addr} {xs : List V} {ds : List D} : H a = some (.tup xs) → DvAll H xs ds → Dv H (.ref a) (.tuple ds)
inductive DvAll (H : Hp) : List V → List D → Prop
  | nil : DvAll H [] []
  | cons {v : V} {vs : List V} {d : D} {ds : List D} : Dv H v d → DvAll H vs ds → DvAll H (v :: vs) (d :: ds)
end
mutual
theorem Dv.mono {H H' : Hp} (e : Ex H H') : ∀ (d : D) (v : V), Dv H v d → Dv H' v d
  | .none, _, h => by cases h; exact .non
  | .bool _, _, h => by cases h; exact .bl _
  | .int _, _, h => by cases h; exact .int _
  | .str _, _, h => by cases h; exact .str _
  | .list ds, _, h => by
    cases h with
    | lst hs ha => exact .lst (e _ _ hs) (DvAll.mono e ds _ ha)
  | .tuple ds, _, h => by
    cases h with
    | tup hs ha => exact .tup (e _ _ hs) (DvAll.mono e ds _ ha)
  | .dict _, _, h => by cases h
theorem DvAll.mono {H H' : Hp} (e : Ex H H') : ∀ (ds : List D) (vs : List V), DvAll H vs ds → DvAll H' vs ds
  | [], _, h => by cases h; exact .nil
  | d :: ds, _, h => by
    cases h with
    | cons h1 h2 => exact .cons (Dv.mono e d _ h1) (DvAll.mono e ds _ h2)
end
theorem Dv.up {H H' : Hp} {v : V} {d : D} (h : Dv H v d) (e : Ex H H') : Dv H' v d := Dv.mono e d v h
theorem DvAll.up {H H' : Hp} {v : List V} {d : List D} (h : DvAll H v d) (e : Ex H H') : DvAll H' v d := DvAll.mono e d v h
mutual
theorem Dv.toDp {K : PySem.W.Frag} {H : Hp} : ∀ (d : D) (v : V), Dv H v d → Dp K H v d
  | .none, _, h => by cases h; exact .non
  | .bool _, _, h => by cases h; exact .bl _
  | .int _, _, h => by cases h; exact .int _
  | .str _, _, h => by cases h; exact .str _
  | .list ds, _, h => by
    cases h with
    | lst hs ha => exact .lst (.inl (.inl hs)) (DvAll.toDp ds _ ha)
  | .tuple ds, _, h => by
    cases h with
    | tup hs ha => exact .tup (.inl (.inl hs)) (DvAll.toDp ds _ ha)
  | .dict _, _, h => by cases h
theorem DvAll.toDp {K : PySem.W.Frag} {H : Hp} : ∀ (ds : List D) (vs : List V), DvAll H vs ds → DpAll K H vs ds
  | [], _, h => by cases h; exact .nil
  | d :: ds, _, h => by
    cases h with
    | cons h1 h2 => exact .cons (Dv.toDp d _ h1) (DvAll.toDp ds _ h2)
end
theorem DvAll.len {H : Hp} : ∀ {vs : List V} {ds : List D}, DvAll H vs ds → vs.length = ds.length
  | _, _, .nil => rfl
  | _, _, .cons _ t => by simp [DvAll.len t]
theorem DvAll.get {H : Hp} : ∀ {vs : List V} {ds : List D} {i : Nat} {d : D}, DvAll H vs ds → ds[i]? = some d → ∃ v, vs[i]? = some v ∧ Dv H v d
  | _, _, _, _, .nil, e => by simp at e
  | _, _, 0, _, .cons h _, e => by simp at e; subst e; exact ⟨_, rfl, h⟩
  | _, _, i + 1, d, .cons _ t, e => by
    obtain ⟨v, h1, h2⟩ := DvAll.get (i := i) (d := d) t (by simpa using e)
    exact ⟨v, by simpa using h1, h2⟩
theorem DvAll.getV {H : Hp} : ∀ {vs : List V} {ds : List D} {i : Nat} {v : V}, DvAll H vs ds → vs[i]? = some v → ∃ d, ds[i]? = some d ∧ Dv H v d
  | _, _, _, _, .nil, e => by simp at e
  | _, _, 0, _, .cons h _, e => by simp at e; subst e; exact ⟨_, rfl, h⟩
  | _, _, i + 1, v, .cons _ t, e => by
    obtain ⟨d, h1, h2⟩ := DvAll.getV (i := i) (v := v) t (by simpa using e)
    exact ⟨d, by simpa using h1, h2⟩
theorem DvAll.app {H : Hp} : ∀ {vs ws : List V} {ds es : List D}, DvAll H vs ds → DvAll H ws es → DvAll H (vs ++ ws) (ds ++ es)
  | _, _, _, _, .nil, h => h
  | _, _, _, _, .cons a t, h => .cons a (DvAll.app t h)
theorem DvAll.snoc {H : Hp} {vs : List V} {v : V} {ds : List D} {d : D} (h : DvAll H vs ds) (a : Dv H v d) : DvAll H (vs ++ [v]) (ds ++ [d]) := h.app (.cons a .nil)
theorem DvAll.drop {H : Hp} : ∀ (n : Nat) {vs : List V} {ds : List D}, DvAll H vs ds → DvAll H (vs.drop n) (ds.drop n)
  | 0, _, _, h => h
  | _ + 1, _, _, .nil => .nil
  | n + 1, _, _, .cons _ t => DvAll.drop n t
theorem DvAll.take {H : Hp} : ∀ (n : Nat) {vs : List V} {ds : List D}, DvAll H vs ds → DvAll H (vs.take n) (ds.take n)
  | 0, _, _, _ => .nil
  | _ + 1, _, _, .nil => .nil
  | n + 1, _, _, .cons a t => .cons a (DvAll.take n t)
theorem DvAll.rep {H : Hp} {vs : List V} {ds : List D} (h : DvAll H vs ds) : ∀ n : Nat, DvAll H (List.replicate n vs).flatten (List.replicate n ds).flatten
  | 0 => .nil
  | n + 1 => by
    rw [List.replicate_succ, List.replicate_succ, List.flatten_cons, List.flatten_cons]
    exact h.app (h.rep n)
def iL (ns : List Int) : List D := ns.map PyData.int
theorem DvAll.iL {H : Hp} : ∀ ns : List Int, DvAll H (ns.map V.int) (iL ns)
  | [] => .nil
  | n :: r => .cons (.int n) (DvAll.iL r)
theorem DvAll.ofInts {H : Hp} : ∀ {ns : List Int} {vs : List V}, DvAll H vs (Ed.iL ns) → vs = ns.map V.int
  | [], _, h => by cases h; rfl
  | n :: r, _, h => by
    cases h with
    | cons h1 h2 =>
      cases h1
      rw [DvAll.ofInts h2]; rfl
theorem Dv.int_eq {H : Hp} {v : V} {i : Int} (h : Dv H v (.int i)) : v = .int i := by cases h; rfl
theorem Dv.bool_eq {H : Hp} {v : V} {i : Bool} (h : Dv H v (.bool i)) : v = .bl i := by cases h; rfl
theorem Dv.str_eq {H : Hp} {v : V} {i : Str} (h : Dv H v (.str i)) : v = .str i := by cases h; rfl
theorem Dv.none_eq {H : Hp} {v : V} (h : Dv H v .none) : v = .non := by cases h; rfl

/-! ### atoms: data without an object -/
def atom : D → Bool
  | .none | .bool _ | .int _ | .str _ => true
  | _ => false
theorem Dv.atom {H H' : Hp} {v : V} {d : D} (h : Dv H v d) (a : atom d = true) : Dv H' v d := by
  cases h with
  | non => exact .non
  | bl b => exact .bl b
  | int i => exact .int i
  | str x => exact .str x
  | lst _ _ => cases a
  | tup _ _ => cases a
theorem DvAll.atoms {H H' : Hp} : ∀ {vs : List V} {ds : List D}, DvAll H vs ds → ds.all Ed.atom = true → DvAll H' vs ds
  | _, _, .nil, _ => .nil
  | _, _, .cons h t, a => by
    rw [List.all_cons, Bool.and_eq_true] at a
    exact .cons (h.atom a.1) (t.atoms a.2)
theorem atoms_ints (ns : List Int) : (iL ns).all atom = true := by
  induction ns with
  | nil => rfl
  | cons n r ih => exact Bool.and_eq_true_iff.mpr ⟨rfl, ih⟩

/-! ### slots -/
/-- any word of a slot that stays where the heaps grow -/
structure SlP where
  φ : (Addr → Prop) → Hp → Hp → V → Prop
  up : ∀ {G G' : Addr → Prop} {F H F' H' : Hp} {v : V}, φ G F H v → Ex F F' → (∀ a o, G a → H a = some o → G' a ∧ H' a = some o) → φ G' F' H' v
inductive Sl where
  | no
  | fz (d : D)
  | ow (ds : List D)
  | sq (xs : List V)
  | rg (lo hi : Int)
  | pv (d : D)
  | is (v : V)
  | ab (p : SlP)
/-- v is what s says; G: what a slot may own -/
def VG (K : PySem.W.Frag) (G : Addr → Prop) (F H : Hp) (v : V) : Sl → Prop
  | .no => True
  | .fz d => Dv F v d
  | .ow ds => ∃ p xs, v = .ref p ∧ G p ∧ H p = some (.lst xs) ∧ DvAll F xs ds
  | .sq xs => ∃ a, v = .ref a ∧ SqL K F a xs
  | .rg lo hi => ∃ a, v = .ref a ∧ F a = some (.rng lo hi)
  | .is w => v = w
  | .ab p => p.φ G F H v
  | .pv d => ∃ P : Hp, (∀ a o, P a = some o → G a ∧ H a = some o) ∧ Dv P v d
abbrev VOk (K : PySem.W.Frag) (H0 F H : Hp) (v : V) (s : Sl) : Prop := VG K (fun a => H0 a = none ∧ F a = none) F H v s
def SOk (K : PySem.W.Frag) (G : Addr → Prop) (F H : Hp) (o : Option (Option V)) : Sl → Prop
  | .no => True
  | s => ∃ v, o = some (some v) ∧ VG K G F H v s
/-- (F, H) grows to (F', H'): what is frozen stays, what is newly frozen is new -/
structure Ext (F H F' H' : Hp) : Prop where
  hh : Ex H H'
  ff : Ex F F'
  fh : Ex F' H'
  nw : ∀ a o, F' a = some o → (∃ o', F a = some o') ∨ H a = none
theorem Ext.refl {F H : Hp} (h : Ex F H) : Ext F H F H := ⟨.refl H, .refl F, h, fun a o e => .inl ⟨o, e⟩⟩
theorem Ext.trans {F H F1 H1 F2 H2 : Hp} (a : Ext F H F1 H1) (b : Ext F1 H1 F2 H2) : Ext F H F2 H2 :=
  ⟨a.hh.trans b.hh, a.ff.trans b.ff, b.fh, fun x o e => by
    rcases b.nw x o e with ⟨o', h⟩ | h
    · exact a.nw x o' h
    · exact .inr (a.hh.back h)⟩
theorem Ext.new {F H : Hp} {p : Addr} {o : HO} (e : Ex F H) (h : H p = none) : Ext F H (upd F p o) (upd H p o) :=
  ⟨.new h, .new (e.back h), fun a u q => by
    by_cases c : a = p
    · subst c; rw [upd_same] at q ⊢; exact q
    · rw [upd_ne c] at q ⊢; exact e a u q, fun a u q => by
    by_cases c : a = p
    · subst c; exact .inr h
    · rw [upd_ne c] at q; exact .inl ⟨u, q⟩⟩
/-- laid, not frozen -/
theorem Ext.own {F H : Hp} {p : Addr} {o : HO} (e : Ex F H) (h : H p = none) : Ext F H F (upd H p o) :=
  ⟨.new h, .refl F, e.trans (.new h), fun a u q => .inl ⟨u, q⟩⟩
theorem Ext.none {F H F' H' : Hp} {p : Addr} {o : HO} (e : Ext F H F' H') (h1 : F p = none) (h2 : H p = some o) : F' p = none := by
  cases q : F' p with
  | none => rfl
  | some u =>
    rcases e.nw p u q with ⟨o', h⟩ | h
    · rw [h1] at h; cases h
    · rw [h2] at h; cases h
/-- two heaps as one -/
def un (F P : Hp) : Hp := fun a => match F a with
  | some o => some o
  | none => P a
theorem un_left (F P : Hp) : Ex F (un F P) := fun a o h => by unfold un; rw [h]
theorem un_right {F P : Hp} (h : ∀ a o, P a = some o → F a = none) : Ex P (un F P) := fun a o e => by unfold un; rw [h a o e]; exact e
theorem un_cases {F P : Hp} {a : Addr} {o : HO} (h : un F P a = some o) : F a = some o ∨ (F a = none ∧ P a = some o) := by
  unfold un at h
  cases e : F a with
  | some u => rw [e] at h; exact .inl h
  | none => rw [e] at h; exact .inr ⟨rfl, h⟩
/-- what a value says stays where the heaps grow and its own objects stand -/
theorem VG.up {K : PySem.W.Frag} {G G' : Addr → Prop} {F H F' H' : Hp} {v : V} {s : Sl} (h : VG K G F H v s) (ef : Ex F F') (eh : ∀ a o, G a → H a = some o → G' a ∧ H' a = some o) : VG K G' F' H' v s := by
  cases s with
  | no => trivial
  | fz d => exact Dv.up h ef
  | ow ds =>
    obtain ⟨p, xs, h1, h2, h3, h4⟩ := h
    obtain ⟨g1, g2⟩ := eh p _ h2 h3
    exact ⟨p, xs, h1, g1, g2, h4.up ef⟩
  | sq xs =>
    obtain ⟨a, h1, h2⟩ := h
    exact ⟨a, h1, ef.sqL h2⟩
  | is w => exact h
  | ab p => exact p.up h ef eh
  | rg lo hi =>
    obtain ⟨a, h1, h2⟩ := h
    exact ⟨a, h1, ef _ _ h2⟩
  | pv d =>
    obtain ⟨P, h1, h2⟩ := h
    exact ⟨P, fun a o e => eh a o (h1 a o e).1 (h1 a o e).2, h2⟩
theorem VG.ext {K : PySem.W.Frag} {H0 F H F' H' : Hp} {v : V} {s : Sl} (h : VOk K H0 F H v s) (e : Ext F H F' H') : VOk K H0 F' H' v s :=
  VG.up h e.ff fun a o g ho => ⟨⟨g.1, e.none g.2 ho⟩, e.hh _ _ ho⟩
theorem VG.base {K : PySem.W.Frag} {H0 H1 F H : Hp} {v : V} {s : Sl} (h : VOk K H1 F H v s) (e : Ex H0 H1) : VOk K H0 F H v s :=
  VG.up h (.refl F) fun a o g ho => ⟨⟨e.back g.1, g.2⟩, ho⟩
structure Own (H0 F H : Hp) (O : Nat → Addr → Prop) : Prop where
  one : ∀ i j a, O i a → O j a → i = j
  new : ∀ i a, O i a → H0 a = none ∧ F a = none
structure Cfg (K : PySem.W.Frag) (F0 H0 F H : Hp) (σ : L2.St) (ρ : List Sl) : Prop where
  ex : Ext F0 H0 F H
  len : σ.length = ρ.length
  sl : ∃ O, Own H0 F H O ∧ (∀ i a, O i a → ∃ o, H a = some o) ∧ ∀ (i : Nat) (s : Sl), ρ[i]? = some s → SOk K (O i) F H (σ[i]?) s
theorem SOk.of {K : PySem.W.Frag} {G : Addr → Prop} {F H : Hp} {o : Option (Option V)} {v : V} {s : Sl} (e : o = some (some v)) (h : VG K G F H v s) : SOk K G F H o s := by
  cases s with
  | no => trivial
  | _ => exact ⟨v, e, h⟩
theorem SOk.up {K : PySem.W.Frag} {G G' : Addr → Prop} {F H F' H' : Hp} {o : Option (Option V)} {s : Sl} (h : SOk K G F H o s) (ef : Ex F F') (eh : ∀ a o, G a → H a = some o → G' a ∧ H' a = some o) : SOk K G' F' H' o s := by
  cases s with
  | no => trivial
  | fz d => obtain ⟨v, h1, h2⟩ := h; exact ⟨v, h1, VG.up h2 ef eh⟩
  | ow d => obtain ⟨v, h1, h2⟩ := h; exact ⟨v, h1, VG.up h2 ef eh⟩
  | sq d => obtain ⟨v, h1, h2⟩ := h; exact ⟨v, h1, VG.up h2 ef eh⟩
  | rg a b => obtain ⟨v, h1, h2⟩ := h; exact ⟨v, h1, VG.up h2 ef eh⟩
  | is w => obtain ⟨v, h1, h2⟩ := h; exact ⟨v, h1, VG.up h2 ef eh⟩
  | ab p => obtain ⟨v, h1, h2⟩ := h; exact ⟨v, h1, VG.up h2 ef eh⟩
  | pv d => obtain ⟨v, h1, h2⟩ := h; exact ⟨v, h1, VG.up h2 ef eh⟩
theorem Cfg.up {K : PySem.W.Frag} {F0 H0 F H F' H' : Hp} {σ : L2.St} {ρ : List Sl} (c : Cfg K F0 H0 F H σ ρ) (e : Ext F H F' H') : Cfg K F0 H0 F' H' σ ρ := by
  obtain ⟨O, o1, o2, o3⟩ := c.sl
  refine ⟨c.ex.trans e, c.len, O, ⟨o1.one, fun i a h => ?_⟩, fun i a h => ?_, fun i s h => (o3 i s h).up e.ff fun a o g ho => ⟨g, e.hh _ _ ho⟩⟩
  · obtain ⟨o, ho⟩ := o2 i a h
    exact ⟨(o1.new i a h).1, e.none (o1.new i a h).2 ho⟩
  · obtain ⟨o, ho⟩ := o2 i a h
    exact ⟨o, e.hh _ _ ho⟩
/-- what a slot that owns nothing says -/
theorem Cfg.get {K : PySem.W.Frag} {F0 H0 F H : Hp} {σ : L2.St} {ρ : List Sl} (c : Cfg K F0 H0 F H σ ρ) {i : Nat} {s : Sl} (h : ρ[i]? = some s) (hs : s ≠ .no) : ∃ v, σ[i]? = some (some v) ∧ VOk K H0 F H v s := by
  obtain ⟨O, o1, o2, o3⟩ := c.sl
  have q := o3 i s h
  have fin : ∀ {v}, VG K (O i) F H v s → VOk K H0 F H v s := fun g => VG.up g (.refl F) fun a o g ho => ⟨o1.new i a g, ho⟩
  cases s with
  | no => exact absurd rfl hs
  | fz d => obtain ⟨v, h1, h2⟩ := q; exact ⟨v, h1, fin h2⟩
  | ow d => obtain ⟨v, h1, h2⟩ := q; exact ⟨v, h1, fin h2⟩
  | sq d => obtain ⟨v, h1, h2⟩ := q; exact ⟨v, h1, fin h2⟩
  | rg a b => obtain ⟨v, h1, h2⟩ := q; exact ⟨v, h1, fin h2⟩
  | is w => obtain ⟨v, h1, h2⟩ := q; exact ⟨v, h1, fin h2⟩
  | ab p => obtain ⟨v, h1, h2⟩ := q; exact ⟨v, h1, fin h2⟩
  | pv d => obtain ⟨v, h1, h2⟩ := q; exact ⟨v, h1, fin h2⟩
theorem set_get {α : Type} (l : List α) (i j : Nat) (x : α) : (l.set i x)[j]? = if i = j then (if j < l.length then some x else none) else l[j]? := by
  rw [List.getElem?_set]
  split <;> rename_i h <;> simp_all
/-- slot i holds v, which owns what is new since Hb -/
theorem Cfg.setR {K : PySem.W.Frag} {F0 H0 Fb Hb F H : Hp} {σ : L2.St} {ρ : List Sl} (c : Cfg K F0 H0 Fb Hb σ ρ) (e : Ext Fb Hb F H) (i : Nat) {v : V} {s : Sl} (h : VOk K Hb F H v s) : Cfg K F0 H0 F H (σ.set i (some v)) (ρ.set i s) := by
  obtain ⟨O, o1, o2, o3⟩ := c.sl
  refine ⟨c.ex.trans e, by simp [c.len], fun j a => (j = i ∧ (Hb a = none ∧ F a = none) ∧ ∃ o, H a = some o) ∨ (j ≠ i ∧ O j a), ⟨fun j k a hj hk => ?_, fun j a hj => ?_⟩, fun j a hj => ?_, fun j t ht => ?_⟩
  · rcases hj with ⟨rfl, g, _⟩ | ⟨hj, oj⟩
    · rcases hk with ⟨rfl, _⟩ | ⟨_, ok⟩
      · rfl
      · obtain ⟨o, ho⟩ := o2 k a ok
        rw [g.1] at ho; cases ho
    · rcases hk with ⟨rfl, g, _⟩ | ⟨_, ok⟩
      · obtain ⟨o, ho⟩ := o2 j a oj
        rw [g.1] at ho; cases ho
      · exact o1.one j k a oj ok
  · rcases hj with ⟨rfl, g, _⟩ | ⟨_, oj⟩
    · exact ⟨c.ex.hh.back g.1, g.2⟩
    · obtain ⟨o, ho⟩ := o2 j a oj
      exact ⟨(o1.new j a oj).1, e.none (o1.new j a oj).2 ho⟩
  · rcases hj with ⟨rfl, _, g⟩ | ⟨_, oj⟩
    · exact g
    · obtain ⟨o, ho⟩ := o2 j a oj
      exact ⟨o, e.hh _ _ ho⟩
  · rw [set_get] at ht ⊢
    by_cases hij : i = j
    · rw [if_pos hij] at ht ⊢
      rw [c.len]
      split at ht
      · rename_i hl
        rw [if_pos hl]
        cases ht
        exact .of rfl (VG.up h (.refl F) fun a o g ho => ⟨.inl ⟨hij.symm, g, o, ho⟩, ho⟩)
      · cases ht
    · rw [if_neg hij] at ht ⊢
      exact (o3 j t ht).up e.ff fun a o g ho => ⟨.inr ⟨fun z => hij z.symm, g⟩, e.hh _ _ ho⟩
theorem Cfg.setF {K : PySem.W.Frag} {F0 H0 F H : Hp} {σ : L2.St} {ρ : List Sl} (c : Cfg K F0 H0 F H σ ρ) (i : Nat) {v : V} {d : D} (h : Dv F v d) : Cfg K F0 H0 F H (σ.set i (some v)) (ρ.set i (.fz d)) :=
  c.setR (.refl c.ex.fh) i (s := .fz d) h
/-- a slot is forgotten -/
theorem Cfg.wk {K : PySem.W.Frag} {F0 H0 F H : Hp} {σ : L2.St} {ρ : List Sl} (c : Cfg K F0 H0 F H σ ρ) (i : Nat) : Cfg K F0 H0 F H σ (ρ.set i .no) := by
  obtain ⟨O, o1, o2, o3⟩ := c.sl
  refine ⟨c.ex, by simp [c.len], O, o1, o2, fun j t e => ?_⟩
  rw [set_get] at e
  by_cases hij : i = j
  · rw [if_pos hij] at e
    split at e
    · cases e; trivial
    · cases e
  · rw [if_neg hij] at e
    exact o3 j t e
theorem Cfg.unset {K : PySem.W.Frag} {F0 H0 F H : Hp} {σ : L2.St} {ρ : List Sl} (c : Cfg K F0 H0 F H σ ρ) (i : Nat) : Cfg K F0 H0 F H (σ.set i none) (ρ.set i .no) := by
  obtain ⟨O, o1, o2, o3⟩ := (c.wk i).sl
  refine ⟨c.ex, by simp [c.len], O, o1, o2, fun j t e => ?_⟩
  have o := o3 j t e
  rw [set_get] at e ⊢
  by_cases hij : i = j
  · rw [if_pos hij] at e ⊢
    split at e
    · cases e; trivial
    · cases e
  · rw [if_neg hij]; exact o
def forget : List Nat → List Sl → List Sl
  | [], ρ => ρ
  | i :: l, ρ => forget l (ρ.set i .no)
theorem Cfg.forget {K : PySem.W.Frag} {F0 H0 F H : Hp} {σ : L2.St} : ∀ (l : List Nat) {ρ : List Sl}, Cfg K F0 H0 F H σ ρ → Cfg K F0 H0 F H σ (Ed.forget l ρ)
  | [], _, c => c
  | i :: l, _, c => (c.wk i).forget l
/-- slot i's own objects are frozen -/
theorem Cfg.frzG {K : PySem.W.Frag} {F0 H0 F H : Hp} {σ : L2.St} {ρ : List Sl} (c : Cfg K F0 H0 F H σ ρ) {i : Nat} {s : Sl} {d : D} (hi : ρ[i]? = some s)
    (hP : ∀ G : Addr → Prop, (∀ a, G a → F a = none) → ∀ o, SOk K G F H o s → ∃ (v : V) (P : Hp), o = some (some v) ∧ (∀ a u, P a = some u → G a ∧ H a = some u) ∧ Dv (un F P) v d) :
    ∃ F', Ex F F' ∧ Ex F' H ∧ Cfg K F0 H0 F' H σ (ρ.set i (.fz d)) := by
  obtain ⟨O, o1, o2, o3⟩ := c.sl
  obtain ⟨v, P, hv, hp, hd⟩ := hP (O i) (fun a g => (o1.new i a g).2) _ (o3 i s hi)
  have eF : Ex F (un F P) := un_left F P
  have eH : Ex (un F P) H := fun a o q => by
    rcases un_cases q with q | ⟨_, q⟩
    · exact c.ex.fh a o q
    · exact (hp a o q).2
  refine ⟨un F P, eF, eH, ⟨c.ex.hh, c.ex.ff.trans eF, eH, fun a o q => ?_⟩, by simp [c.len], fun j a => j ≠ i ∧ O j a, ⟨fun j k a hj hk => o1.one j k a hj.2 hk.2, fun j a hj => ⟨(o1.new j a hj.2).1, ?_⟩⟩, fun j a hj => o2 j a hj.2, fun j t e => ?_⟩
  · rcases un_cases q with q | ⟨_, q⟩
    · exact c.ex.nw a o q
    · exact .inr (o1.new i a (hp a o q).1).1
  · cases q : un F P a with
    | none => rfl
    | some u =>
      rcases un_cases q with q | ⟨_, q⟩
      · rw [(o1.new j a hj.2).2] at q; cases q
      · exact absurd (o1.one j i a hj.2 (hp a u q).1) hj.1
  · rw [set_get] at e
    by_cases hij : i = j
    · rw [if_pos hij] at e
      split at e
      · cases e
        subst hij
        exact ⟨v, hv, hd⟩
      · cases e
    · rw [if_neg hij] at e
      exact (o3 j t e).up eF fun a o g ho => ⟨⟨fun z => hij z.symm, g⟩, ho⟩
theorem Cfg.frz {K : PySem.W.Frag} {F0 H0 F H : Hp} {σ : L2.St} {ρ : List Sl} (c : Cfg K F0 H0 F H σ ρ) {i : Nat} {ds : List D} (hi : ρ[i]? = some (.ow ds)) :
    ∃ F', Ex F F' ∧ Ex F' H ∧ Cfg K F0 H0 F' H σ (ρ.set i (.fz (.list ds))) := by
  refine c.frzG hi fun G hG o h => ?_
  obtain ⟨v, h1, p, xs, rfl, g, h2, h3⟩ := h
  refine ⟨_, fun a => if a = p then some (.lst xs) else none, h1, fun a u e => ?_, .lst ?_ (h3.up (un_left _ _))⟩
  · by_cases z : a = p
    · have e2 : some (HO.lst xs) = some u := (if_pos z).symm.trans e
      rw [z, ← e2]
      exact ⟨g, h2⟩
    · have e2 : none = some u := (if_neg z).symm.trans e
      cases e2
  · unfold un
    rw [hG p g]
    exact if_pos rfl
theorem Cfg.frzP {K : PySem.W.Frag} {F0 H0 F H : Hp} {σ : L2.St} {ρ : List Sl} (c : Cfg K F0 H0 F H σ ρ) {i : Nat} {d : D} (hi : ρ[i]? = some (.pv d)) :
    ∃ F', Ex F F' ∧ Ex F' H ∧ Cfg K F0 H0 F' H σ (ρ.set i (.fz d)) := by
  refine c.frzG hi fun G hG o h => ?_
  obtain ⟨v, h1, P, h2, h3⟩ := h
  exact ⟨v, P, h1, h2, h3.up (un_right fun a o e => hG a (h2 a o e).1)⟩
/-- an object that slot i owns is written; the slot says s' of it -/
theorem Cfg.writeG {K : PySem.W.Frag} {F0 H0 F H : Hp} {σ : L2.St} {ρ : List Sl} (c : Cfg K F0 H0 F H σ ρ) {i : Nat} {s s' : Sl} {u : HO} {p : Addr} (hi : ρ[i]? = some s)
    (hG : ∀ G : Addr → Prop, SOk K G F H (σ[i]?) s → G p ∧ SOk K G F (upd H p u) (σ[i]?) s') : Cfg K F0 H0 F (upd H p u) σ (ρ.set i s') := by
  obtain ⟨O, o1, o2, o3⟩ := c.sl
  obtain ⟨g, hs⟩ := hG (O i) (o3 i s hi)
  have np := o1.new i p g
  refine ⟨⟨c.ex.hh.mut np.1, c.ex.ff, c.ex.fh.mut np.2, c.ex.nw⟩, by simp [c.len], O, ⟨o1.one, o1.new⟩, fun j a hj => ?_, fun j t e => ?_⟩
  · by_cases z : a = p
    · subst z; exact ⟨u, upd_same⟩
    · rw [upd_ne z]; exact o2 j a hj
  · rw [set_get] at e
    by_cases hij : i = j
    · rw [if_pos hij] at e
      split at e
      · cases e; subst hij; exact hs
      · cases e
    · rw [if_neg hij] at e
      refine (o3 j t e).up (.refl F) fun a o ga ho => ⟨ga, ?_⟩
      have hne : a ≠ p := fun z => by subst z; exact hij (o1.one i j a g ga)
      rw [upd_ne hne]
      exact ho
theorem Cfg.write {K : PySem.W.Frag} {F0 H0 F H : Hp} {σ : L2.St} {ρ : List Sl} (c : Cfg K F0 H0 F H σ ρ) {i : Nat} {ds es : List D} {p : Addr} {ys : List V} (hi : ρ[i]? = some (.ow ds)) (hp : σ[i]? = some (some (.ref p))) (hy : DvAll F ys es) :
    Cfg K F0 H0 F (upd H p (.lst ys)) σ (ρ.set i (.ow es)) := by
  refine c.writeG hi fun G h => ?_
  obtain ⟨v, g1, p', xs, rfl, g, g4, g5⟩ := h
  rw [hp] at g1
  cases g1
  exact ⟨g, _, hp, p, ys, rfl, g, upd_same, hy⟩
end Ed

namespace Ed
open PySem PySem.Spec PyProof.Rows L2

/-! ### what evaluates to what -/
def EvR (K : PySem.W.Frag) (te : TE) (ρ : List Sl) (r : Sl) : Prop :=
  ∀ F0 H0 F H σ, Cfg K F0 H0 F H σ ρ → ∀ Q : VK, (∀ v F' H', Ext F H F' H' → VOk K H F' H' v r → Q v H') → te σ H Q
def EvT (K : PySem.W.Frag) (t : TT) (ρ : List Sl) (b : Bool) : Prop :=
  ∀ F0 H0 F H σ, Cfg K F0 H0 F H σ ρ → ∀ Q : Bool → Hp → Prop, (∀ F' H', Ext F H F' H' → Q b H') → t σ H Q
/-- argument lists: frozen data and read-only sequences -/
inductive VsF (K : PySem.W.Frag) (F : Hp) : List V → List Sl → Prop
  | nil : VsF K F [] []
  | fz {v : V} {d : D} {vs : List V} {rs : List Sl} : Dv F v d → VsF K F vs rs → VsF K F (v :: vs) (.fz d :: rs)
  | sq {a : Addr} {xs vs : List V} {rs : List Sl} : SqL K F a xs → VsF K F vs rs → VsF K F (.ref a :: vs) (.sq xs :: rs)
theorem VsF.up {K : PySem.W.Frag} {F F' : Hp} (e : Ex F F') : ∀ {vs : List V} {rs : List Sl}, VsF K F vs rs → VsF K F' vs rs
  | _, _, .nil => .nil
  | _, _, .fz h t => .fz (h.up e) (t.up e)
  | _, _, .sq h t => .sq (e.sqL h) (t.up e)
theorem VsF.len {K : PySem.W.Frag} {F : Hp} : ∀ {vs : List V} {rs : List Sl}, VsF K F vs rs → vs.length = rs.length
  | _, _, .nil => rfl
  | _, _, .fz _ t => by simp [t.len]
  | _, _, .sq _ t => by simp [t.len]
theorem VsF.all {K : PySem.W.Frag} {F : Hp} : ∀ {ds : List D} {vs : List V}, VsF K F vs (ds.map Sl.fz) → DvAll F vs ds
  | [], _, h => by cases h; exact .nil
  | d :: ds, _, h => by
    cases h with
    | fz h t => exact .cons h (VsF.all t)
def EvA (K : PySem.W.Frag) (ta : TA) (ρ : List Sl) (rs : List Sl) : Prop :=
  ∀ F0 H0 F H σ, Cfg K F0 H0 F H σ ρ → ∀ Q : List V → Hp → Prop, (∀ vs F' H', Ext F H F' H' → VsF K F' vs rs → Q vs H') → ta σ H Q
def EvO (K : PySem.W.Frag) (to : TO) (ρ : List Sl) (o : Option Int) : Prop :=
  ∀ F0 H0 F H σ, Cfg K F0 H0 F H σ ρ → ∀ Q : Option Int → Hp → Prop, (∀ F' H', Ext F H F' H' → Q o H') → to σ H Q

section
variable {K : PySem.W.Frag} {ρ : List Sl} {ta tb tc te : TE} {t u : TT}
abbrev EvD (K : PySem.W.Frag) (te : TE) (ρ : List Sl) (d : D) : Prop := EvR K te ρ (.fz d)
abbrev EvI (K : PySem.W.Frag) (te : TE) (ρ : List Sl) (i : Int) : Prop := EvR K te ρ (.fz (.int i))

theorem EvR.is {r r' : Sl} (h : EvR K te ρ r) (e : r = r') : EvR K te ρ r' := e ▸ h
theorem EvR.int_is {i j : Int} (h : EvI K te ρ i) (e : i = j) : EvI K te ρ j := e ▸ h
/-- a new list may be frozen -/
theorem EvR.fr {ds : List D} (h : EvR K te ρ (.ow ds)) : EvD K te ρ (.list ds) := fun F0 H0 F H σ c Q q => h F0 H0 F H σ c Q fun v F' H' e g => by
  obtain ⟨p, xs, rfl, ⟨h1, h2⟩, h3, h4⟩ := g
  refine q _ (upd F' p (.lst xs)) H' ⟨e.hh, e.ff.trans (.new h2), fun a o z => ?_, fun a o z => ?_⟩ (.lst upd_same (h4.up (.new h2)))
  · by_cases y : a = p
    · subst y; rw [upd_same] at z; cases z; exact h3
    · rw [upd_ne y] at z; exact e.fh a o z
  · by_cases y : a = p
    · subst y; exact .inr h1
    · rw [upd_ne y] at z; exact e.nw a o z
theorem ev_var {i : Nat} {d : D} (h : ρ[i]? = some (.fz d)) : EvD K (tVar i) ρ d := fun F0 H0 F H σ c Q q => by
  obtain ⟨v, h1, h2⟩ := c.get h nofun
  exact ⟨v, h1, q v F H (.refl c.ex.fh) (by first | exact h2 | exact VG.base h2 (.refl H0))⟩
theorem ev_varS {i : Nat} {xs : List V} (h : ρ[i]? = some (.sq xs)) : EvR K (tVar i) ρ (.sq xs) := fun F0 H0 F H σ c Q q => by
  obtain ⟨v, h1, h2⟩ := c.get h nofun
  exact ⟨v, h1, q v F H (.refl c.ex.fh) (by first | exact h2 | exact VG.base h2 (.refl H0))⟩
theorem ev_int {i : Int} : EvI K (tC (.int i)) ρ i := fun F0 H0 F H σ c Q q => q _ F H (.refl c.ex.fh) (.int i)
theorem ev_bl {b : Bool} : EvD K (tC (.bl b)) ρ (.bool b) := fun F0 H0 F H σ c Q q => q _ F H (.refl c.ex.fh) (.bl b)
theorem ev_non : EvD K (tC .non) ρ .none := fun F0 H0 F H σ c Q q => q _ F H (.refl c.ex.fh) .non
theorem ev_str {x : Str} : EvD K (tC (.str x)) ρ (.str x) := fun F0 H0 F H σ c Q q => q _ F H (.refl c.ex.fh) (.str x)

/-- a two-place operation -/
theorem ev_op {r : R2} {d e : D} {z : Sl} (ha : EvD K ta ρ d) (hb : EvD K tb ρ e) (hr : ∀ (x y : V) (F H : Hp), Ex F H → Dv F x d → Dv F y e → ∀ Q : VK, (∀ v F' H', Ext F H F' H' → VOk K H F' H' v z → Q v H') → r x y H Q) : EvR K (tOp r ta tb) ρ z :=
  fun F0 H0 F H σ c Q q => ha F0 H0 F H σ c _ fun x F1 H1 e1 x1 => hb F0 H0 F1 H1 σ (c.up e1) _ fun y F2 H2 e2 y2 =>
    hr x y F2 H2 e2.fh (Dv.up x1 e2.ff) y2 Q fun v F' H' e3 g => q v F' H' ((e1.trans e2).trans e3) (g.base (e1.trans e2).hh)
theorem ev_i {g : Int → Int → Int} {a b : Int} (ha : EvI K ta ρ a) (hb : EvI K tb ρ b) : EvI K (tOp (rI0 fun i j => .int (g i j)) ta tb) ρ (g a b) :=
  ev_op ha hb fun x y F H fh hx hy Q q => ⟨a, b, hx.int_eq, hy.int_eq, q _ F H (.refl fh) (.int _)⟩
theorem ev_ic {C : Int → Int → Prop} {g : Int → Int → Int} {a b : Int} (ha : EvI K ta ρ a) (hb : EvI K tb ρ b) (hc : C a b) : EvI K (tOp (rI C fun i j => .int (g i j)) ta tb) ρ (g a b) :=
  ev_op ha hb fun x y F H fh hx hy Q q => ⟨a, b, hx.int_eq, hy.int_eq, hc, q _ F H (.refl fh) (.int _)⟩
theorem ev_b {g : Int → Int → Bool} {a b : Int} (ha : EvI K ta ρ a) (hb : EvI K tb ρ b) : EvD K (tOp (rI0 fun i j => .bl (g i j)) ta tb) ρ (.bool (g a b)) :=
  ev_op ha hb fun x y F H fh hx hy Q q => ⟨a, b, hx.int_eq, hy.int_eq, q _ F H (.refl fh) (.bl _)⟩
theorem ev_neg {a : Int} (ha : EvI K ta ρ a) : EvI K (tUn (rU fun i => .int (-i)) ta) ρ (-a) := fun F0 H0 F H σ c Q q =>
  ha F0 H0 F H σ c _ fun x F1 H1 e1 x1 => ⟨a, x1.int_eq, q _ F1 H1 e1 (.int _)⟩
/-- == and != of numbers -/
theorem ev_eqI {a b : Int} (ha : EvI K ta ρ a) (hb : EvI K tb ρ b) : EvD K (tOp rEq ta tb) ρ (.bool (decide (a = b))) :=
  ev_op ha hb fun x y F H fh hx hy Q q => by
    rw [hx.int_eq, hy.int_eq]
    refine ⟨rfl, ?_⟩
    have e : decide (V.int a = V.int b) = decide (a = b) := by
      by_cases h : a = b
      · subst h; simp
      · rw [decide_eq_false h, decide_eq_false fun z => h (V.int.inj z)]
    rw [e]
    exact q _ F H (.refl fh) (.bl _)
theorem ev_neI {a b : Int} (ha : EvI K ta ρ a) (hb : EvI K tb ρ b) : EvD K (tOp rNe ta tb) ρ (.bool (!decide (a = b))) :=
  ev_op ha hb fun x y F H fh hx hy Q q => by
    rw [hx.int_eq, hy.int_eq]
    refine ⟨rfl, ?_⟩
    have e : decide (V.int a = V.int b) = decide (a = b) := by
      by_cases h : a = b
      · subst h; simp
      · rw [decide_eq_false h, decide_eq_false fun z => h (V.int.inj z)]
    rw [e]
    exact q _ F H (.refl fh) (.bl _)
/-- == and != of data -/
theorem ev_eqD {d e : D} (ha : EvD K ta ρ d) (hb : EvD K tb ρ e) (sd : SeqAt.shaped d = true) (se : SeqAt.shaped e = true) : EvD K (tOp (rEqD K) ta tb) ρ (.bool (PyData.eqv d e)) :=
  ev_op ha hb fun x y F H fh hx hy Q q => ⟨d, e, (Dv.up hx fh).toDp, (Dv.up hy fh).toDp, sd, se, q _ F H (.refl fh) (.bl _)⟩
theorem ev_neD {d e : D} (ha : EvD K ta ρ d) (hb : EvD K tb ρ e) (sd : SeqAt.shaped d = true) (se : SeqAt.shaped e = true) : EvD K (tOp (rNeD K) ta tb) ρ (.bool (!PyData.eqv d e)) :=
  ev_op ha hb fun x y F H fh hx hy Q q => ⟨d, e, (Dv.up hx fh).toDp, (Dv.up hy fh).toDp, sd, se, q _ F H (.refl fh) (.bl _)⟩
/-- items -/
theorem atI_dv {F : Hp} {xs : List V} {ds : List D} {i : Int} {d : D} (h : DvAll F xs ds) (ha : atI ds i = some d) : ∃ v, atI xs i = some v ∧ Dv F v d := by
  unfold atI at ha ⊢
  rw [h.len]
  cases e : ixN ds.length i with
  | none => rw [e] at ha; cases ha
  | some j =>
    rw [e] at ha
    obtain ⟨v, h1, h2⟩ := h.get (show ds[j]? = some d from ha)
    exact ⟨v, h1, h2⟩
theorem ev_ixL {ds : List D} {i : Int} {d : D} (ha : EvD K ta ρ (.list ds)) (hb : EvI K tb ρ i) (hi : atI ds i = some d) : EvD K (tOp (rIxL K) ta tb) ρ d :=
  ev_op ha hb fun x y F H fh hx hy Q q => by
    rw [hy.int_eq]
    cases hx with
    | lst hs hx =>
      obtain ⟨v, h1, h2⟩ := atI_dv hx hi
      exact ⟨_, _, i, v, rfl, rfl, .inl (.inl (fh _ _ hs)), h1, q v F H (.refl fh) h2⟩
theorem ev_ixT {ds : List D} {i : Int} {d : D} (ha : EvD K ta ρ (.tuple ds)) (hb : EvI K tb ρ i) (hi : atI ds i = some d) : EvD K (tOp (rIxT K) ta tb) ρ d :=
  ev_op ha hb fun x y F H fh hx hy Q q => by
    rw [hy.int_eq]
    cases hx with
    | tup hs hx =>
      obtain ⟨v, h1, h2⟩ := atI_dv hx hi
      exact ⟨_, _, i, v, rfl, rfl, .inl (.inl (fh _ _ hs)), h1, q v F H (.refl fh) h2⟩
/-- an item of a read-only sequence of ints -/
theorem ev_ixS {ns : List Int} {i n : Int} (ha : EvR K ta ρ (.sq (ns.map V.int))) (hb : EvI K tb ρ i) (hi : atI ns i = some n) : EvI K (tOp (rIxL K) ta tb) ρ n :=
  fun F0 H0 F H σ c Q q => ha F0 H0 F H σ c _ fun x F1 H1 e1 x1 => hb F0 H0 F1 H1 σ (c.up e1) _ fun y F2 H2 e2 y2 => by
    obtain ⟨a, rfl, hs⟩ := x1
    rw [Dv.int_eq y2]
    refine ⟨a, ns.map V.int, i, .int n, rfl, rfl, e2.hh.sqL (e1.fh.sqL hs), ?_, q _ F2 H2 (e1.trans e2) (.int n)⟩
    unfold atI at hi ⊢
    rw [List.length_map]
    cases e : ixN ns.length i with
    | none => rw [e] at hi; cases hi
    | some j =>
      rw [e] at hi
      have hj : ns[j]? = some n := hi
      show (ns.map V.int)[j]? = some (V.int n)
      rw [List.getElem?_map, hj]; rfl
/-- xs + ys -/
theorem ev_cat {ds es : List D} (ha : EvD K ta ρ (.list ds)) (hb : EvD K tb ρ (.list es)) (hz : ds.length + es.length ≤ sizeLine) : EvR K (tOp rCat ta tb) ρ (.ow (ds ++ es)) :=
  ev_op ha hb fun x y F H fh hx hy Q q => by
    cases hx with
    | lst h1 h2 =>
      cases hy with
      | lst h3 h4 =>
        refine ⟨_, _, _, _, rfl, rfl, fh _ _ h1, fh _ _ h3, by rw [h2.len, h4.len]; exact hz, fun p hp => ?_⟩
        exact q _ F _ (.own fh hp) ⟨p, _, rfl, ⟨hp, fh.back hp⟩, upd_same, h2.app h4⟩
/-- xs * k -/
theorem ev_rep {ds : List D} {k : Int} (ha : EvD K ta ρ (.list ds)) (hb : EvI K tb ρ k) (h1 : -(2 ^ 63) ≤ k) (h2 : k < 2 ^ 63) (hz : ds.length * k.toNat ≤ sizeLine) : EvR K (tOp rRep ta tb) ρ (.ow (List.replicate k.toNat ds).flatten) :=
  ev_op ha hb fun x y F H fh hx hy Q q => by
    rw [hy.int_eq]
    cases hx with
    | lst g1 g2 =>
      refine ⟨_, k, _, rfl, rfl, fh _ _ g1, h1, h2, by rw [g2.len]; exact hz, fun p hp => ?_⟩
      exact q _ F _ (.own fh hp) ⟨p, _, rfl, ⟨hp, fh.back hp⟩, upd_same, g2.rep k.toNat⟩
/-- a < b < c of ints -/
theorem ev_chain {g g' : Int → Int → Bool} {a b k : Int} (ha : EvI K ta ρ a) (hb : EvI K tb ρ b) (hc : EvI K tc ρ k) :
    EvD K (tChain (rI0 fun i j => .bl (g i j)) (rI0 fun i j => .bl (g' i j)) ta tb tc) ρ (.bool (g a b && g' b k)) :=
  fun F0 H0 F H σ c Q q => ha F0 H0 F H σ c _ fun x F1 H1 e1 x1 => hb F0 H0 F1 H1 σ (c.up e1) _ fun y F2 H2 e2 y2 => by
    rw [Dv.int_eq x1, Dv.int_eq y2]
    refine ⟨a, b, rfl, rfl, g a b, rfl, ?_⟩
    cases hg : g a b with
    | true =>
      rw [if_pos rfl]
      refine hc F0 H0 F2 H2 σ ((c.up e1).up e2) _ fun z F3 H3 e3 z3 => ?_
      rw [Dv.int_eq z3]
      refine ⟨b, k, rfl, rfl, q _ F3 H3 ((e1.trans e2).trans e3) ?_⟩
      rw [hg]
      exact .bl _
    | false =>
      rw [if_neg Bool.false_ne_true]
      refine q _ F2 H2 (e1.trans e2) ?_
      rw [hg]
      exact .bl _
/-- is None -/
def isNoD : D → Bool
  | .none => true
  | _ => false
theorem ev_isN {d : D} {r : R2} (hr : r = fun x y H Q => y = .non ∧ Q (.bl (decide (x = .non))) H) (ha : EvD K ta ρ d) : EvD K (tOp r ta (tC .non)) ρ (.bool (isNoD d)) := by
  subst hr
  refine ev_op ha ev_non fun x y F H fh hx hy Q q => ?_
  refine ⟨hy.none_eq, ?_⟩
  have e : decide (x = V.non) = (isNoD d) := by cases hx <;> rfl
  rw [e]
  exact q _ F H (.refl fh) (.bl _)
theorem ev_notN {d : D} {r : R2} (hr : r = fun x y H Q => y = .non ∧ Q (.bl (!decide (x = .non))) H) (ha : EvD K ta ρ d) : EvD K (tOp r ta (tC .non)) ρ (.bool (!(isNoD d))) := by
  subst hr
  refine ev_op ha ev_non fun x y F H fh hx hy Q q => ?_
  refine ⟨hy.none_eq, ?_⟩
  have e : decide (x = V.non) = (isNoD d) := by cases hx <;> rfl
  rw [e]
  exact q _ F H (.refl fh) (.bl _)

/-! ### tests, and, or, not -/
theorem et_test {b : Bool} (h : EvD K te ρ (.bool b)) : EvT K (tTest te) ρ b := fun F0 H0 F H σ c Q q => h F0 H0 F H σ c _ fun v F' H' e g => ⟨b, Dv.bool_eq g, q F' H' e⟩
theorem et_B {b : Bool} (h : EvD K te ρ (.bool b)) : EvT K (tB te) ρ b := fun F0 H0 F H σ c Q q => h F0 H0 F H σ c _ fun v F' H' e g => ⟨b, Dv.bool_eq g, q F' H' e⟩
theorem et_yes : EvT K tYes ρ true := fun F0 H0 F H σ c Q q => q F H (.refl c.ex.fh)
theorem et_and {a b : Bool} (h1 : EvT K t ρ a) (h2 : a = true → EvT K u ρ b) : EvT K (tAnd t u) ρ (a && b) := fun F0 H0 F H σ c Q q => h1 F0 H0 F H σ c _ fun F1 H1 e1 => by
  cases a with
  | true =>
    rw [if_pos rfl]
    exact h2 rfl F0 H0 F1 H1 σ (c.up e1) _ fun F2 H2 e2 => q F2 H2 (e1.trans e2)
  | false =>
    rw [if_neg Bool.false_ne_true]
    exact q F1 H1 e1
theorem et_or {a b : Bool} (h1 : EvT K t ρ a) (h2 : a = false → EvT K u ρ b) : EvT K (tOr t u) ρ (a || b) := fun F0 H0 F H σ c Q q => h1 F0 H0 F H σ c _ fun F1 H1 e1 => by
  cases a with
  | true =>
    rw [if_pos rfl]
    exact q F1 H1 e1
  | false =>
    rw [if_neg Bool.false_ne_true]
    exact h2 rfl F0 H0 F1 H1 σ (c.up e1) _ fun F2 H2 e2 => q F2 H2 (e1.trans e2)
theorem et_not {a : Bool} (h1 : EvT K t ρ a) : EvT K (tNot t) ρ (!a) := fun F0 H0 F H σ c Q q => h1 F0 H0 F H σ c _ fun F1 H1 e1 => q F1 H1 e1
theorem et_is {a b : Bool} (h : EvT K t ρ a) (e : a = b) : EvT K t ρ b := e ▸ h
theorem ev_andV {a b : Bool} (h1 : EvD K ta ρ (.bool a)) (h2 : a = true → EvD K tb ρ (.bool b)) : EvD K (tAndV ta tb) ρ (.bool (a && b)) := fun F0 H0 F H σ c Q q => h1 F0 H0 F H σ c _ fun v F1 H1 e1 g => by
  refine ⟨a, Dv.bool_eq g, ?_⟩
  cases a with
  | true =>
    rw [if_pos rfl]
    exact h2 rfl F0 H0 F1 H1 σ (c.up e1) _ fun w F2 H2 e2 g2 => q w F2 H2 (e1.trans e2) (g2.base e1.hh)
  | false =>
    rw [if_neg Bool.false_ne_true]
    exact q _ F1 H1 e1 (.bl _)
theorem ev_orV {a b : Bool} (h1 : EvD K ta ρ (.bool a)) (h2 : a = false → EvD K tb ρ (.bool b)) : EvD K (tOrV ta tb) ρ (.bool (a || b)) := fun F0 H0 F H σ c Q q => h1 F0 H0 F H σ c _ fun v F1 H1 e1 g => by
  refine ⟨a, Dv.bool_eq g, ?_⟩
  cases a with
  | true =>
    rw [if_pos rfl]
    exact q _ F1 H1 e1 (.bl _)
  | false =>
    rw [if_neg Bool.false_ne_true]
    exact h2 rfl F0 H0 F1 H1 σ (c.up e1) _ fun w F2 H2 e2 g2 => q w F2 H2 (e1.trans e2) (g2.base e1.hh)
theorem ev_notV {a : Bool} (h1 : EvD K ta ρ (.bool a)) : EvD K (tNotV ta) ρ (.bool (!a)) := fun F0 H0 F H σ c Q q => h1 F0 H0 F H σ c _ fun v F1 H1 e1 g => ⟨a, Dv.bool_eq g, q _ F1 H1 e1 (.bl _)⟩
theorem ev_if {b : Bool} {r : Sl} (h : EvT K t ρ b) (h1 : b = true → EvR K ta ρ r) (h2 : b = false → EvR K tb ρ r) : EvR K (tIf t ta tb) ρ r := fun F0 H0 F H σ c Q q => h F0 H0 F H σ c _ fun F1 H1 e1 => by
  cases b with
  | true =>
    rw [if_pos rfl]
    exact h1 rfl F0 H0 F1 H1 σ (c.up e1) _ fun w F2 H2 e2 g2 => q w F2 H2 (e1.trans e2) (g2.base e1.hh)
  | false =>
    rw [if_neg Bool.false_ne_true]
    exact h2 rfl F0 H0 F1 H1 σ (c.up e1) _ fun w F2 H2 e2 g2 => q w F2 H2 (e1.trans e2) (g2.base e1.hh)

/-! ### argument lists, displays -/
theorem ea_nil : EvA K tNil ρ [] := fun F0 H0 F H σ c Q q => q [] F H (.refl c.ex.fh) .nil
theorem ea_cons {tr : TA} {d : D} {rs : List Sl} (h : EvD K te ρ d) (hr : EvA K tr ρ rs) : EvA K (tCons te tr) ρ (.fz d :: rs) := fun F0 H0 F H σ c Q q =>
  h F0 H0 F H σ c _ fun v F1 H1 e1 g => hr F0 H0 F1 H1 σ (c.up e1) _ fun vs F2 H2 e2 gs => q _ F2 H2 (e1.trans e2) (.fz (Dv.up g e2.ff) gs)
theorem ea_consS {tr : TA} {xs : List V} {rs : List Sl} (h : EvR K te ρ (.sq xs)) (hr : EvA K tr ρ rs) : EvA K (tCons te tr) ρ (.sq xs :: rs) := fun F0 H0 F H σ c Q q =>
  h F0 H0 F H σ c _ fun v F1 H1 e1 g => hr F0 H0 F1 H1 σ (c.up e1) _ fun vs F2 H2 e2 gs => by
    obtain ⟨a, rfl, hs⟩ := g
    exact q _ F2 H2 (e1.trans e2) (.sq (e2.ff.sqL hs) gs)
theorem ev_lst {t : TA} {ds : List D} (h : EvA K t ρ (ds.map Sl.fz)) (hz : ds.length ≤ sizeLine) : EvR K (tLst t) ρ (.ow ds) := fun F0 H0 F H σ c Q q =>
  h F0 H0 F H σ c _ fun vs F1 H1 e1 gs => ⟨by rw [gs.all.len]; exact hz, fun p hp => q _ F1 _ (e1.trans (.own e1.fh hp)) ⟨p, _, rfl, ⟨e1.hh.back hp, e1.fh.back hp⟩, upd_same, gs.all⟩⟩
theorem ev_tup {t : TA} {ds : List D} (h : EvA K t ρ (ds.map Sl.fz)) (hz : ds.length ≤ sizeLine) : EvD K (tTup t) ρ (.tuple ds) := fun F0 H0 F H σ c Q q =>
  h F0 H0 F H σ c _ fun vs F1 H1 e1 gs => ⟨by rw [gs.all.len]; exact hz, fun p hp => q _ _ _ (e1.trans (.new e1.fh hp)) (.tup upd_same (gs.all.up (.new (e1.fh.back hp))))⟩
/-! ### slices -/
theorem eo_none : EvO K tNoPart ρ none := fun F0 H0 F H σ c Q q => q F H (.refl c.ex.fh)
theorem eo_some {i : Int} (h : EvI K te ρ i) : EvO K (tPart te) ρ (some i) := fun F0 H0 F H σ c Q q => h F0 H0 F H σ c _ fun v F' H' e g => ⟨i, Dv.int_eq g, q F' H' e⟩
def cutD (xs : List D) (lo hi : Option Int) : List D := (xs.drop (HT.sIx xs.length 0 lo)).take (HT.sIx xs.length xs.length hi - HT.sIx xs.length 0 lo)
theorem DvAll.cut {H : Hp} {xs : List V} {ds : List D} (h : DvAll H xs ds) (lo hi : Option Int) : DvAll H (cutV xs lo hi) (cutD ds lo hi) := by
  unfold cutV cutD
  rw [h.len]
  exact (h.drop _).take _
theorem ev_sl {tl th : TO} {ds : List D} {lo hi : Option Int} (h : EvD K te ρ (.list ds)) (h1 : EvO K tl ρ lo) (h2 : EvO K th ρ hi) : EvR K (tSl (rSlL K) te tl th) ρ (.ow (cutD ds lo hi)) := fun F0 H0 F H σ c Q q =>
  h F0 H0 F H σ c _ fun v F1 H1 e1 g => h1 F0 H0 F1 H1 σ (c.up e1) _ fun F2 H2 e2 => h2 F0 H0 F2 H2 σ ((c.up e1).up e2) _ fun F3 H3 e3 => by
    have e := (e1.trans e2).trans e3
    have g3 : Dv F3 v (.list ds) := Dv.up (Dv.up g e2.ff) e3.ff
    cases g3 with
    | lst hs ha => exact ⟨_, _, rfl, .inl (.inl (e.fh _ _ hs)), fun p hp => q _ F3 _ (e.trans (.own e.fh hp)) ⟨p, _, rfl, ⟨e.hh.back hp, e.fh.back hp⟩, upd_same, ha.cut lo hi⟩⟩

/-! ### calls by values -/
def RC (K : PySem.W.Frag) (r : List V → Hp → VK → Prop) (rs : List Sl) (z : Sl) : Prop := ∀ vs F H, Ex F H → VsF K F vs rs → ∀ Q : VK, (∀ v F' H', Ext F H F' H' → VOk K H F' H' v z → Q v H') → r vs H Q
theorem ev_cb {r : List V → Hp → VK → Prop} {ta : TA} {rs : List Sl} {z : Sl} (h : EvA K ta ρ rs) (hr : RC K r rs z) : EvR K (tCB r ta) ρ z := fun F0 H0 F H σ c Q q =>
  h F0 H0 F H σ c _ fun vs F1 H1 e1 gs => hr vs F1 H1 e1.fh gs Q fun v F2 H2 e2 g => q v F2 H2 (e1.trans e2) (g.base e1.hh)
abbrev rInt1 : List V → Hp → VK → Prop := fun xs H Q => (∃ i, xs = [.int i] ∧ Q (.int i) H) ∨ ∃ k, xs = [.bl k] ∧ Q (.int (if k then 1 else 0)) H
theorem VsF.one {F : Hp} {vs : List V} {d : D} (h : VsF K F vs [.fz d]) : ∃ v, vs = [v] ∧ Dv F v d := by
  cases h with
  | fz h t => cases t; exact ⟨_, rfl, h⟩
theorem VsF.two {F : Hp} {vs : List V} {d e : D} (h : VsF K F vs [.fz d, .fz e]) : ∃ v w, vs = [v, w] ∧ Dv F v d ∧ Dv F w e := by
  cases h with
  | fz h t =>
    obtain ⟨w, rfl, h2⟩ := t.one
    exact ⟨_, w, rfl, h, h2⟩
theorem VsF.three {F : Hp} {vs : List V} {d e f : D} (h : VsF K F vs [.fz d, .fz e, .fz f]) : ∃ v w u, vs = [v, w, u] ∧ Dv F v d ∧ Dv F w e ∧ Dv F u f := by
  cases h with
  | fz h t =>
    obtain ⟨w, u, rfl, h2, h3⟩ := t.two
    exact ⟨_, w, u, rfl, h, h2, h3⟩
theorem rc_int {i : Int} : RC K rInt1 [.fz (.int i)] (.fz (.int i)) := fun vs F H fh g Q q => by
  obtain ⟨v, rfl, h⟩ := g.one
  rw [h.int_eq]
  exact .inl ⟨i, rfl, q _ F H (.refl fh) (.int i)⟩
theorem rc_abs {i : Int} : RC K (fun xs H Q => ∃ i, xs = [.int i] ∧ Q (.int (if i < 0 then -i else i)) H) [.fz (.int i)] (.fz (.int (if i < 0 then -i else i))) := fun vs F H fh g Q q => by
  obtain ⟨v, rfl, h⟩ := g.one
  rw [h.int_eq]
  exact ⟨i, rfl, q _ F H (.refl fh) (.int _)⟩
abbrev rLen (K : PySem.W.Frag) : List V → Hp → VK → Prop := fun xs H Q => ∃ p ys, xs = [.ref p] ∧ (SqL K H p ys ∨ SqT K H p ys) ∧ Q (.int ys.length) H
theorem rc_len {ds : List D} : RC K (rLen K) [.fz (.list ds)] (.fz (.int ds.length)) := fun vs F H fh g Q q => by
  obtain ⟨v, rfl, h⟩ := g.one
  cases h with
  | lst hs ha => exact ⟨_, _, rfl, .inl (.inl (.inl (fh _ _ hs))), by rw [ha.len]; exact q _ F H (.refl fh) (.int _)⟩
theorem rc_lenS {xs : List V} : RC K (rLen K) [.sq xs] (.fz (.int xs.length)) := fun vs F H fh g Q q => by
  cases g with
  | sq hs t =>
    cases t
    exact ⟨_, _, rfl, .inl (fh.sqL hs), q _ F H (.refl fh) (.int _)⟩
theorem rc_sum {ns : List Int} : RC K (rSum K) [.fz (.list (iL ns))] (.fz (.int ns.sum)) := fun vs F H fh g Q q => by
  obtain ⟨v, rfl, h⟩ := g.one
  cases h with
  | lst hs ha =>
    rw [ha.ofInts] at hs
    exact ⟨_, ns, rfl, .inl (.inl (fh _ _ hs)), q _ F H (.refl fh) (.int _)⟩
theorem rc_min {ns : List Int} {m : Int} (hm : m ∈ ns) (hl : ∀ y ∈ ns, m ≤ y) : RC K (rMin K) [.fz (.list (iL ns))] (.fz (.int m)) := fun vs F H fh g Q q => by
  obtain ⟨v, rfl, h⟩ := g.one
  cases h with
  | lst hs ha =>
    rw [ha.ofInts] at hs
    refine ⟨_, ns, rfl, .inl (.inl (fh _ _ hs)), List.length_pos_of_mem hm, fun k hk hkl => ?_⟩
    have e : k = m := Int.le_antisymm (hkl m hm) (hl k hk)
    rw [e]
    exact q _ F H (.refl fh) (.int _)
theorem rc_max {ns : List Int} {m : Int} (hm : m ∈ ns) (hl : ∀ y ∈ ns, y ≤ m) : RC K (rMax K) [.fz (.list (iL ns))] (.fz (.int m)) := fun vs F H fh g Q q => by
  obtain ⟨v, rfl, h⟩ := g.one
  cases h with
  | lst hs ha =>
    rw [ha.ofInts] at hs
    refine ⟨_, ns, rfl, .inl (.inl (fh _ _ hs)), List.length_pos_of_mem hm, fun k hk hkl => ?_⟩
    have e : k = m := Int.le_antisymm (hl k hk) (hkl m hm)
    rw [e]
    exact q _ F H (.refl fh) (.int _)
abbrev rList (K : PySem.W.Frag) : List V → Hp → VK → Prop := fun xs H Q => ∃ p ys, xs = [.ref p] ∧ (SqL K H p ys ∨ SqT K H p ys) ∧ ∀ l, H l = none → Q (.ref l) (upd H l (.lst ys))
theorem rc_list {ds : List D} : RC K (rList K) [.fz (.list ds)] (.ow ds) := fun vs F H fh g Q q => by
  obtain ⟨v, rfl, h⟩ := g.one
  cases h with
  | lst hs ha => exact ⟨_, _, rfl, .inl (.inl (.inl (fh _ _ hs))), fun p hp => q _ F _ (.own fh hp) ⟨p, _, rfl, ⟨hp, fh.back hp⟩, upd_same, ha⟩⟩

/-! ### promises of defs -/
inductive Res where
  | val (s : Sl)
  | exc (c : Value)
def SpR (K : PySem.W.Frag) (R : List Sl → Res → Prop) : Sp := fun vs H Q E => ∃ F rs r, Ex F H ∧ VsF K F vs rs ∧ R rs r ∧
  match r with
  | .val s => ∀ v F' H', Ext F H F' H' → VOk K H F' H' v s → Q v H'
  | .exc c => ∀ F' H', Ext F H F' H' → E c none H'
theorem ev_call {R : List Sl → Res → Prop} {E : XK} {ta : TA} {rs : List Sl} {s : Sl} (h : EvA K ta ρ rs) (hR : R rs (.val s)) : EvR K (tCall (SpR K R) [] E ta) ρ s := fun F0 H0 F H σ c Q q =>
  h F0 H0 F H σ c _ fun vs F1 H1 e1 gs => by
    show SpR K R (vs ++ []) H1 Q E
    rw [List.append_nil]
    exact ⟨F1, rs, .val s, e1.fh, gs, hR, fun v F2 H2 e2 g => q v F2 H2 (e1.trans e2) (g.base e1.hh)⟩

/-! ### an own list is read in passing -/
def plain : Sl → Bool
  | .fz d => atom d
  | .ow ds => ds.all atom
  | .pv _ => true
  | _ => false
theorem ev_pass {i : Nat} {ds : List D} {r : Sl} (hi : ρ[i]? = some (.ow ds)) (h : EvR K te (ρ.set i (.fz (.list ds))) r) (hp : plain r = true) : EvR K te ρ r := fun F0 H0 F H σ c Q q => by
  obtain ⟨F1, f1, f2, c1⟩ := c.frz hi
  refine h F0 H0 F1 H σ c1 Q fun v F' H' e g => ?_
  refine q v F H' ⟨e.hh, .refl F, c.ex.fh.trans e.hh, fun a o z => .inl ⟨o, z⟩⟩ ?_
  cases r with
  | no => cases hp
  | sq _ => cases hp
  | fz d => exact Dv.atom g hp
  | ow es =>
    obtain ⟨p, xs, h1, ⟨h2, h3⟩, h4, h5⟩ := g
    exact ⟨p, xs, h1, ⟨h2, c.ex.fh.back h2⟩, h4, h5.atoms hp⟩
  | rg _ _ => cases hp
  | is _ => cases hp
  | ab _ => cases hp
  | pv d =>
    obtain ⟨P, h1, h2⟩ := g
    exact ⟨P, fun a o z => ⟨⟨(h1 a o z).1.1, c.ex.fh.back (h1 a o z).1.1⟩, (h1 a o z).2⟩, h2⟩
theorem et_pass {i : Nat} {ds : List D} {b : Bool} (hi : ρ[i]? = some (.ow ds)) (h : EvT K t (ρ.set i (.fz (.list ds))) b) : EvT K t ρ b := fun F0 H0 F H σ c Q q => by
  obtain ⟨F1, f1, f2, c1⟩ := c.frz hi
  exact h F0 H0 F1 H σ c1 Q fun F' H' e => q F H' ⟨e.hh, .refl F, c.ex.fh.trans e.hh, fun a o z => .inl ⟨o, z⟩⟩
end
end Ed

namespace Ed
open PySem PySem.Spec PyProof.Rows L2

structure Post where
  nx : List Sl → Prop
  rt : Sl → Prop
  bk : List Sl → Prop := fun _ => False
  ct : List Sl → Prop := fun _ => False
  xs : Value → Prop := fun _ => False
def Run (K : PySem.W.Frag) (E : XK) (ts : TS) (ρ : List Sl) (P : Post) : Prop :=
  ∀ F0 H0 F H σ (D : Ends), Cfg K F0 H0 F H σ ρ →
    (∀ F' H' σ' ρ', Ex F F' → Cfg K F0 H0 F' H' σ' ρ' → P.nx ρ' → D.nx σ' H') →
    (∀ v s F' H', Ext F0 H0 F' H' → VOk K H0 F' H' v s → P.rt s → D.rt v H') →
    (∀ F' H' σ' ρ', Ex F F' → Cfg K F0 H0 F' H' σ' ρ' → P.bk ρ' → D.bk σ' H') →
    (∀ F' H' σ' ρ', Ex F F' → Cfg K F0 H0 F' H' σ' ρ' → P.ct ρ' → D.ct σ' H') →
    (∀ c F' H', Ext F0 H0 F' H' → P.xs c → E c none H') → ts D σ H

section
variable {K : PySem.W.Frag} {E : XK} {ρ : List Sl} {ta tb tc te : TE} {t u : TT} {tu tw tz : TS} {P : Post}

theorem run_next (h : P.nx ρ) : Run K E tNext ρ P := fun F0 H0 F H σ D c n _ _ _ _ => n F H σ ρ (.refl F) c h
theorem run_brk (h : P.bk ρ) : Run K E tBreak ρ P := fun F0 H0 F H σ D c _ _ b _ _ => b F H σ ρ (.refl F) c h
theorem run_cont (h : P.ct ρ) : Run K E tCont ρ P := fun F0 H0 F H σ D c _ _ _ b _ => b F H σ ρ (.refl F) c h
theorem run_seq {M : List Sl → Prop} (h : Run K E tu ρ { P with nx := M }) (k : ∀ ρ', M ρ' → Run K E tz ρ' P) : Run K E (tSeq tu tz) ρ P :=
  fun F0 H0 F H σ D c n r b t x => h F0 H0 F H σ { D with nx := tz D } c (fun F' H' σ' ρ' f c' m => k ρ' m F0 H0 F' H' σ' D c' (fun _ _ _ _ f' => n _ _ _ _ (f.trans f')) r (fun _ _ _ _ f' => b _ _ _ _ (f.trans f')) (fun _ _ _ _ f' => t _ _ _ _ (f.trans f')) x) r b t x
/-- the first one always goes on with ρ' -/
theorem run_to {ρ' : List Sl} (h : Run K E tu ρ { P with nx := fun s => s = ρ' }) (k : Run K E tz ρ' P) : Run K E (tSeq tu tz) ρ P := run_seq h fun _ e => e ▸ k
theorem Run.mono {P' : Post} (h : Run K E tu ρ P) (n : ∀ s, P.nx s → P'.nx s) (r : ∀ s, P.rt s → P'.rt s) (b : ∀ s, P.bk s → P'.bk s) (t : ∀ s, P.ct s → P'.ct s) (x : ∀ s, P.xs s → P'.xs s) : Run K E tu ρ P' :=
  fun F0 H0 F H σ D c n' r' b' t' x' => h F0 H0 F H σ D c (fun F' H' σ' ρ' f c' m => n' F' H' σ' ρ' f c' (n _ m)) (fun v s F' H' e g m => r' v s F' H' e g (r _ m)) (fun F' H' σ' ρ' f c' m => b' F' H' σ' ρ' f c' (b _ m)) (fun F' H' σ' ρ' f c' m => t' F' H' σ' ρ' f c' (t _ m)) (fun c F' H' e m => x' c F' H' e (x _ m))
/-- slots may be forgotten at any time -/
theorem run_wk (l : List Nat) (h : Run K E tu (forget l ρ) P) : Run K E tu ρ P := fun F0 H0 F H σ D c => h F0 H0 F H σ D (c.forget l)
/-- an own list may be frozen at any time -/
theorem run_frz {i : Nat} {ds : List Ed.D} (hi : ρ[i]? = some (.ow ds)) (h : Run K E tu (ρ.set i (.fz (.list ds))) P) : Run K E tu ρ P := fun F0 H0 F H σ D c n r b t x => by
  obtain ⟨F1, f1, f2, c1⟩ := c.frz hi
  exact h F0 H0 F1 H σ D c1 (fun _ _ _ _ f' => n _ _ _ _ (f1.trans f')) r (fun _ _ _ _ f' => b _ _ _ _ (f1.trans f')) (fun _ _ _ _ f' => t _ _ _ _ (f1.trans f')) x

theorem s_asg {i : Nat} {r : Sl} (h : EvR K te ρ r) (k : P.nx (ρ.set i r)) : Run K E (tAsg te (gName i)) ρ P := fun F0 H0 F H σ D c n _ _ _ _ =>
  h F0 H0 F H σ c _ fun v F' H' e g => n F' H' _ _ e.ff (c.setR e i g) k
theorem run_asg {i : Nat} {r : Sl} (h : EvR K te ρ r) (k : Run K E tz (ρ.set i r) P) : Run K E (tSeq (tAsg te (gName i)) tz) ρ P := run_to (s_asg h rfl) k
theorem s_ret {r : Sl} (h : EvR K te ρ r) (k : P.rt r) : Run K E (tRet te) ρ P := fun F0 H0 F H σ D c _ rt _ _ _ =>
  h F0 H0 F H σ c _ fun v F' H' e g => rt v r F' H' (c.ex.trans e) (g.base c.ex.hh) k
theorem s_retO {i : Nat} {ds : List Ed.D} (hi : ρ[i]? = some (.ow ds)) (k : P.rt (.ow ds)) : Run K E (tRet (tVar i)) ρ P := fun F0 H0 F H σ D c _ rt _ _ _ => by
  obtain ⟨v, g1, g2⟩ := c.get hi nofun
  exact ⟨v, g1, rt v _ F H c.ex g2 k⟩
theorem s_retN (k : P.rt (.fz .none)) : Run K E tRetN ρ P := fun F0 H0 F H σ D c _ rt _ _ _ => rt .non (.fz .none) F H c.ex .non k
theorem s_if {b : Bool} (h : EvT K t ρ b) (h1 : b = true → Run K E tu ρ P) (h2 : b = false → Run K E tw ρ P) : Run K E (tIfS t tu tw) ρ P := fun F0 H0 F H σ D c n r bk ct x =>
  h F0 H0 F H σ c _ fun F' H' e => by
    have go : ∀ {ts : TS}, Run K E ts ρ P → ts D σ H' := fun g => g F0 H0 F' H' σ D (c.up e) (fun _ _ _ _ f' => n _ _ _ _ (e.ff.trans f')) r (fun _ _ _ _ f' => bk _ _ _ _ (e.ff.trans f')) (fun _ _ _ _ f' => ct _ _ _ _ (e.ff.trans f')) x
    cases b with
    | true => rw [if_pos rfl]; exact go (h1 rfl)
    | false => rw [if_neg Bool.false_ne_true]; exact go (h2 rfl)
theorem run_if {b : Bool} (h : EvT K t ρ b) (h1 : b = true → Run K E (tSeq tu tz) ρ P) (h2 : b = false → Run K E (tSeq tw tz) ρ P) : Run K E (tSeq (tIfS t tu tw) tz) ρ P := fun F0 H0 F H σ D c n r bk ct x =>
  h F0 H0 F H σ c _ fun F' H' e => by
    have go : ∀ {ts : TS}, Run K E (tSeq ts tz) ρ P → tSeq ts tz D σ H' := fun g => g F0 H0 F' H' σ D (c.up e) (fun _ _ _ _ f' => n _ _ _ _ (e.ff.trans f')) r (fun _ _ _ _ f' => bk _ _ _ _ (e.ff.trans f')) (fun _ _ _ _ f' => ct _ _ _ _ (e.ff.trans f')) x
    cases b with
    | true => rw [if_pos rfl]; exact go (h1 rfl)
    | false => rw [if_neg Bool.false_ne_true]; exact go (h2 rfl)
/-- an if without else -/
theorem run_when {b : Bool} (h : EvT K t ρ b) (h1 : b = true → Run K E (tSeq tu tz) ρ P) (h2 : b = false → Run K E tz ρ P) : Run K E (tSeq (tIfS t tu tNext) tz) ρ P :=
  run_if h h1 fun hb => run_to (ρ' := ρ) (run_next rfl) (h2 hb)
theorem s_when {b : Bool} (h : EvT K t ρ b) (h1 : b = true → Run K E tu ρ P) (h2 : b = false → P.nx ρ) : Run K E (tIfS t tu tNext) ρ P := s_if h h1 fun hb => run_next (h2 hb)
/-- a block that has left: what follows is not asked -/
theorem run_gone (h : Run K E tu ρ { P with nx := fun _ => False }) : Run K E (tSeq tu tz) ρ P := run_seq h fun _ z => z.elim
theorem s_drop {r : Sl} (h : EvR K te ρ r) (k : P.nx ρ) : Run K E (tDrop te) ρ P := fun F0 H0 F H σ D c n _ _ _ _ =>
  h F0 H0 F H σ c _ fun v F' H' e g => n F' H' σ ρ e.ff (c.up e) k
/-- x += e and its like -/
theorem s_aug {i : Nat} {g : Int → Int → Int} {a b : Int} (hi : ρ[i]? = some (.fz (.int a))) (h : EvI K te ρ b) (k : P.nx (ρ.set i (.fz (.int (g a b))))) : Run K E (tAug i te (rI0 fun i j => .int (g i j))) ρ P := fun F0 H0 F H σ D c n _ _ _ _ => by
  obtain ⟨v, g1, g2⟩ := c.get hi nofun
  refine ⟨v, g1, h F0 H0 F H σ c _ fun w F' H' e gw => ?_⟩
  rw [Dv.int_eq g2, Dv.int_eq gw]
  exact ⟨a, b, rfl, rfl, n F' H' _ _ e.ff ((c.up e).setF i (.int _)) k⟩
theorem s_augC {i : Nat} {C : Int → Int → Prop} {g : Int → Int → Int} {a b : Int} (hi : ρ[i]? = some (.fz (.int a))) (h : EvI K te ρ b) (hc : C a b) (k : P.nx (ρ.set i (.fz (.int (g a b))))) : Run K E (tAug i te (rI C fun i j => .int (g i j))) ρ P := fun F0 H0 F H σ D c n _ _ _ _ => by
  obtain ⟨v, g1, g2⟩ := c.get hi nofun
  refine ⟨v, g1, h F0 H0 F H σ c _ fun w F' H' e gw => ?_⟩
  rw [Dv.int_eq g2, Dv.int_eq gw]
  exact ⟨a, b, rfl, rfl, hc, n F' H' _ _ e.ff ((c.up e).setF i (.int _)) k⟩
/-- xs.append(e) of an own list -/
theorem s_app {i : Nat} {ds : List Ed.D} {d : Ed.D} (hi : ρ[i]? = some (.ow ds)) (h : EvD K te ρ d) (hz : ds.length < sizeLine) (k : P.nx (ρ.set i (.ow (ds ++ [d])))) : Run K E (tDrop (tBM K "list" rAppend (tVar i) (tCons te tNil))) ρ P := fun F0 H0 F H σ D c n _ _ _ _ => by
  obtain ⟨v, g1, p, xs, rfl, ⟨g2, g3⟩, g4, g5⟩ := c.get hi nofun
  refine ⟨_, g1, .inl ⟨rfl, xs, .inl (.inl g4)⟩, h F0 H0 F H σ c _ fun w F' H' e gw => ?_⟩
  refine ⟨p, xs, w, rfl, rfl, e.hh _ _ g4, by rw [g5.len]; exact hz, ?_⟩
  exact n F' _ σ _ e.ff ((c.up e).write hi g1 ((g5.up e.ff).snoc gw)) k

/-! ### targets -/
def Gs (K : PySem.W.Frag) (g : TGs) (ds : List Ed.D) (ρ ρ' : List Sl) : Prop := ∀ F0 H0 F H σ xs, Cfg K F0 H0 F H σ ρ → DvAll F xs ds → ∀ Q : L2.St → Hp → Prop, (∀ σ', Cfg K F0 H0 F H σ' ρ' → Q σ' H) → g xs σ H Q
theorem gs_nil : Gs K gNil [] ρ ρ := fun F0 H0 F H σ xs c h Q q => by cases h; exact ⟨rfl, q σ c⟩
theorem gs_cons {i : Nat} {gr : TGs} {d : Ed.D} {ds : List Ed.D} {ρ' : List Sl} (h : Gs K gr ds (ρ.set i (.fz d)) ρ') : Gs K (gCons (gName i) gr) (d :: ds) ρ ρ' := fun F0 H0 F H σ xs c hx Q q => by
  cases hx with
  | cons h1 h2 => exact ⟨_, _, rfl, h F0 H0 F H _ _ (c.setF i h1) h2 Q q⟩
theorem s_unp {n : Nat} {g : TGs} {ds : List Ed.D} {ρ' : List Sl} (h : EvD K te ρ (.tuple ds)) (hn : ds.length = n) (hg : Gs K g ds ρ ρ') (k : P.nx ρ') : Run K E (tAsg te (gTup K n g)) ρ P := fun F0 H0 F H σ D c nx _ _ _ _ =>
  h F0 H0 F H σ c _ fun v F' H' e gv => by
    have gv' : Dv F' v (.tuple ds) := gv
    cases gv' with
    | tup hs ha => exact ⟨_, _, rfl, .inl (.inl (e.fh _ _ hs)), by rw [ha.len]; exact hn, hg F0 H0 F' H' σ _ (c.up e) ha _ fun σ' c' => nx F' H' σ' ρ' e.ff c' k⟩
theorem run_unp {n : Nat} {g : TGs} {ds : List Ed.D} {ρ' : List Sl} (h : EvD K te ρ (.tuple ds)) (hn : ds.length = n) (hg : Gs K g ds ρ ρ') (k : Run K E tz ρ' P) : Run K E (tSeq (tAsg te (gTup K n g)) tz) ρ P := run_to (s_unp h hn hg rfl) k

/-! ### loops -/
theorem s_forL {tl : TE} {j : Nat} {ds : List Ed.D} (fl : List Nat) (h : EvD K tl ρ (.list ds)) (I : Nat → List Sl → Prop) (h0 : I 0 ρ)
    (hs : ∀ i d ρ', ds[i]? = some d → I i ρ' → Run K E tu (ρ'.set j (.fz d)) { P with nx := fun r => I (i + 1) (forget fl r), bk := P.nx, ct := fun r => I (i + 1) (forget fl r) })
    (hd : ∀ ρ', I ds.length ρ' → P.nx ρ') : Run K E (tFor (iList K tl) (gName j) tu) ρ P := fun F0 H0 F H σ D c n r b t x =>
  h F0 H0 F H σ c _ fun v F1 H1 e1 g => by
    have g' : Dv F1 v (.list ds) := g
    cases g' with
    | lst hx ha =>
      rename_i a xs
      refine ⟨a, rfl, ⟨xs, .inl (.inl (e1.fh _ _ hx))⟩, for_list (K := K) (a := a) (xs := xs) (fun i σ' H' => ∃ F' ρ', Cfg K F0 H0 F' H' σ' ρ' ∧ Ex F1 F' ∧ I i ρ') ⟨F1, ρ, c.up e1, .refl _, h0⟩ ?_ ?_ ?_⟩
      · rintro i σ' H' _ ⟨F', ρ', c', ef, _⟩
        exact .inl (.inl (c'.ex.fh _ _ (ef _ _ hx)))
      · rintro i y σ' H' hi ⟨F', ρ', c', ef, hI⟩
        obtain ⟨d, hd1, hd2⟩ := ha.getV hi
        refine hs i d ρ' hd1 hI F0 H0 F' H' _ _ (c'.setF j (hd2.up ef)) ?_ r ?_ ?_ x
        · intro F'' H'' σ'' ρ'' f'' c'' hI''
          exact ⟨F'', forget fl ρ'', c''.forget fl, ef.trans f'', hI''⟩
        · exact fun F'' H'' σ'' ρ'' f'' c'' => n F'' H'' σ'' ρ'' ((e1.ff.trans ef).trans f'') c''
        · intro F'' H'' σ'' ρ'' f'' c'' hI''
          exact ⟨F'', forget fl ρ'', c''.forget fl, ef.trans f'', hI''⟩
      · rintro σ' H' ⟨F', ρ', c', ef, hI⟩
        rw [ha.len] at hI
        exact n F' H' σ' ρ' (e1.ff.trans ef) c' (hd ρ' hI)
/-- over a read-only sequence of ints -/
theorem s_forS {tl : TE} {j : Nat} {ns : List Int} (fl : List Nat) (h : EvR K tl ρ (.sq (ns.map V.int))) (I : Nat → List Sl → Prop) (h0 : I 0 ρ)
    (hs : ∀ i k ρ', ns[i]? = some k → I i ρ' → Run K E tu (ρ'.set j (.fz (.int k))) { P with nx := fun r => I (i + 1) (forget fl r), bk := P.nx, ct := fun r => I (i + 1) (forget fl r) })
    (hd : ∀ ρ', I ns.length ρ' → P.nx ρ') : Run K E (tFor (iList K tl) (gName j) tu) ρ P := fun F0 H0 F H σ D c n r b t x =>
  h F0 H0 F H σ c _ fun v F1 H1 e1 g => by
    obtain ⟨a, rfl, hx⟩ := g
    refine ⟨a, rfl, ⟨_, e1.fh.sqL hx⟩, for_list (K := K) (a := a) (xs := ns.map V.int) (fun i σ' H' => ∃ F' ρ', Cfg K F0 H0 F' H' σ' ρ' ∧ Ex F1 F' ∧ I i ρ') ⟨F1, ρ, c.up e1, .refl _, h0⟩ ?_ ?_ ?_⟩
    · rintro i σ' H' _ ⟨F', ρ', c', ef, _⟩
      exact c'.ex.fh.sqL (ef.sqL hx)
    · rintro i y σ' H' hi ⟨F', ρ', c', ef, hI⟩
      rw [List.getElem?_map] at hi
      cases hk : ns[i]? with
      | none => rw [hk] at hi; cases hi
      | some k =>
        rw [hk] at hi
        cases hi
        refine hs i k ρ' hk hI F0 H0 F' H' _ _ (c'.setF j (.int k)) ?_ r ?_ ?_ x
        · intro F'' H'' σ'' ρ'' f'' c'' hI''
          exact ⟨F'', forget fl ρ'', c''.forget fl, ef.trans f'', hI''⟩
        · exact fun F'' H'' σ'' ρ'' f'' c'' => n F'' H'' σ'' ρ'' ((e1.ff.trans ef).trans f'') c''
        · intro F'' H'' σ'' ρ'' f'' c'' hI''
          exact ⟨F'', forget fl ρ'', c''.forget fl, ef.trans f'', hI''⟩
    · rintro σ' H' ⟨F', ρ', c', ef, hI⟩
      rw [List.length_map] at hI
      exact n F' H' σ' ρ' (e1.ff.trans ef) c' (hd ρ' hI)
theorem s_forR1 {ta : TA} {j : Nat} {m : Int} (fl : List Nat) (h : EvA K ta ρ [.fz (.int m)]) (hm : -(2 ^ 62) ≤ m ∧ m < 2 ^ 62) (I : Nat → List Sl → Prop) (h0 : I 0 ρ)
    (hs : ∀ (i : Nat) ρ', i < m.toNat → I i ρ' → Run K E tu (ρ'.set j (.fz (.int (i : Int)))) { P with nx := fun r => I (i + 1) (forget fl r), bk := P.nx, ct := fun r => I (i + 1) (forget fl r) })
    (hd : ∀ ρ', I m.toNat ρ' → P.nx ρ') : Run K E (tFor (iRng1 ta) (gName j) tu) ρ P := fun F0 H0 F H σ D c n r b t x =>
  h F0 H0 F H σ c _ fun vs F1 H1 e1 g => by
    obtain ⟨v, rfl, hv⟩ := g.one
    rw [hv.int_eq]
    refine ⟨m, rfl, hm.1, hm.2, for_range (lo := 0) (n := m.toNat) (fun i σ' H' => ∃ F' ρ', Cfg K F0 H0 F' H' σ' ρ' ∧ Ex F1 F' ∧ I i ρ') ⟨F1, ρ, c.up e1, .refl _, h0⟩ ?_ ?_⟩
    · rintro i σ' H' hi ⟨F', ρ', c', ef, hI⟩
      have e0 : (0 : Int) + (i : Int) = (i : Int) := Int.zero_add _
      rw [e0]
      refine hs i ρ' hi hI F0 H0 F' H' _ _ (c'.setF j (.int _)) ?_ r ?_ ?_ x
      · intro F'' H'' σ'' ρ'' f'' c'' hI''
        exact ⟨F'', forget fl ρ'', c''.forget fl, ef.trans f'', hI''⟩
      · exact fun F'' H'' σ'' ρ'' f'' c'' => n F'' H'' σ'' ρ'' ((e1.ff.trans ef).trans f'') c''
      · intro F'' H'' σ'' ρ'' f'' c'' hI''
        exact ⟨F'', forget fl ρ'', c''.forget fl, ef.trans f'', hI''⟩
    · rintro σ' H' ⟨F', ρ', c', ef, hI⟩
      exact n F' H' σ' ρ' (e1.ff.trans ef) c' (hd ρ' hI)
theorem s_forR2 {ta : TA} {j : Nat} {lo m : Int} (fl : List Nat) (h : EvA K ta ρ [.fz (.int lo), .fz (.int m)]) (hm : (-(2 ^ 62) ≤ lo ∧ lo < 2 ^ 62) ∧ -(2 ^ 62) ≤ m ∧ m < 2 ^ 62) (I : Nat → List Sl → Prop) (h0 : I 0 ρ)
    (hs : ∀ (i : Nat) ρ', i < (m - lo).toNat → I i ρ' → Run K E tu (ρ'.set j (.fz (.int (lo + (i : Int))))) { P with nx := fun r => I (i + 1) (forget fl r), bk := P.nx, ct := fun r => I (i + 1) (forget fl r) })
    (hd : ∀ ρ', I (m - lo).toNat ρ' → P.nx ρ') : Run K E (tFor (iRng2 ta) (gName j) tu) ρ P := fun F0 H0 F H σ D c n r b t x =>
  h F0 H0 F H σ c _ fun vs F1 H1 e1 g => by
    obtain ⟨v, w, rfl, hv, hw⟩ := g.two
    rw [hv.int_eq, hw.int_eq]
    refine ⟨lo, m, rfl, ⟨hm.1.1, hm.1.2, hm.2.1, hm.2.2⟩, for_range (lo := lo) (n := (m - lo).toNat) (fun i σ' H' => ∃ F' ρ', Cfg K F0 H0 F' H' σ' ρ' ∧ Ex F1 F' ∧ I i ρ') ⟨F1, ρ, c.up e1, .refl _, h0⟩ ?_ ?_⟩
    · rintro i σ' H' hi ⟨F', ρ', c', ef, hI⟩
      refine hs i ρ' hi hI F0 H0 F' H' _ _ (c'.setF j (.int _)) ?_ r ?_ ?_ x
      · intro F'' H'' σ'' ρ'' f'' c'' hI''
        exact ⟨F'', forget fl ρ'', c''.forget fl, ef.trans f'', hI''⟩
      · exact fun F'' H'' σ'' ρ'' f'' c'' => n F'' H'' σ'' ρ'' ((e1.ff.trans ef).trans f'') c''
      · intro F'' H'' σ'' ρ'' f'' c'' hI''
        exact ⟨F'', forget fl ρ'', c''.forget fl, ef.trans f'', hI''⟩
    · rintro σ' H' ⟨F', ρ', c', ef, hI⟩
      exact n F' H' σ' ρ' (e1.ff.trans ef) c' (hd ρ' hI)
theorem s_forR3 {ta : TA} {j : Nat} {lo m k : Int} {N : Nat} (fl : List Nat) (h : EvA K ta ρ [.fz (.int lo), .fz (.int m), .fz (.int k)]) (hm : RgC lo m k N) (I : Nat → List Sl → Prop) (h0 : I 0 ρ)
    (hs : ∀ (i : Nat) ρ', i < N → I i ρ' → Run K E tu (ρ'.set j (.fz (.int (lo + (i : Nat) * k)))) { P with nx := fun r => I (i + 1) (forget fl r), bk := P.nx, ct := fun r => I (i + 1) (forget fl r) })
    (hd : ∀ ρ', I N ρ' → P.nx ρ') : Run K E (tFor (iRng3 ta) (gName j) tu) ρ P := fun F0 H0 F H σ D c n r b t x =>
  h F0 H0 F H σ c _ fun vs F1 H1 e1 g => by
    obtain ⟨v, w, u, rfl, hv, hw, hu⟩ := g.three
    rw [hv.int_eq, hw.int_eq, hu.int_eq]
    refine ⟨lo, m, k, N, rfl, hm, for_rangeC (lo := lo) (c := k) (n := N) (fun i σ' H' => ∃ F' ρ', Cfg K F0 H0 F' H' σ' ρ' ∧ Ex F1 F' ∧ I i ρ') ⟨F1, ρ, c.up e1, .refl _, h0⟩ ?_ ?_⟩
    · rintro i σ' H' hi ⟨F', ρ', c', ef, hI⟩
      refine hs i ρ' hi hI F0 H0 F' H' _ _ (c'.setF j (.int _)) ?_ r ?_ ?_ x
      · intro F'' H'' σ'' ρ'' f'' c'' hI''
        exact ⟨F'', forget fl ρ'', c''.forget fl, ef.trans f'', hI''⟩
      · exact fun F'' H'' σ'' ρ'' f'' c'' => n F'' H'' σ'' ρ'' ((e1.ff.trans ef).trans f'') c''
      · intro F'' H'' σ'' ρ'' f'' c'' hI''
        exact ⟨F'', forget fl ρ'', c''.forget fl, ef.trans f'', hI''⟩
    · rintro σ' H' ⟨F', ρ', c', ef, hI⟩
      exact n F' H' σ' ρ' (e1.ff.trans ef) c' (hd ρ' hI)
/-- for i, x in enumerate(xs) -/
theorem s_forE {ta : TA} {j l : Nat} {ds : List Ed.D} (fl : List Nat) (h : EvA K ta ρ [.fz (.list ds)]) (I : Nat → List Sl → Prop) (h0 : I 0 ρ)
    (hs : ∀ i d ρ', ds[i]? = some d → I i ρ' → Run K E tu ((ρ'.set j (.fz (.int (i : Int)))).set l (.fz d)) { P with nx := fun r => I (i + 1) (forget fl r), bk := P.nx, ct := fun r => I (i + 1) (forget fl r) })
    (hd : ∀ ρ', I ds.length ρ' → P.nx ρ') : Run K E (tFor (iEnum K ta) (gTup K 2 (gCons (gName j) (gCons (gName l) gNil))) tu) ρ P := fun F0 H0 F H σ D c n r b t x =>
  h F0 H0 F H σ c _ fun vs F1 H1 e1 g => by
    obtain ⟨v, rfl, hv⟩ := g.one
    cases hv with
    | lst hx ha =>
      rename_i a xs
      refine ⟨a, xs, rfl, .inl (.inl (e1.fh _ _ hx)), fun i m σ' H' => m = xs.length - i ∧ i ≤ xs.length ∧ ∃ F' ρ', Cfg K F0 H0 F' H' σ' ρ' ∧ Ex F1 F' ∧ I i ρ', ⟨_, rfl, Nat.zero_le _, F1, ρ, c.up e1, .refl _, h0⟩, ?_⟩
      rintro i m σ' H' ⟨rfl, hi, F', ρ', c', ef, hI⟩
      have hq : SqL K H' a xs := .inl (.inl (c'.ex.fh _ _ (ef _ _ hx)))
      by_cases hlt : i < xs.length
      · have hxi : xs[i]? = some xs[i] := by simp [hlt]
        refine .inr ⟨⟨xs, xs[i], hq, hxi⟩, fun σ2 H2 => ∃ F' ρ', Cfg K F0 H0 F' H2 σ2 ρ' ∧ Ex F1 F' ∧ I (i + 1) ρ', fun σ2 H2 p => ⟨xs.length - (i + 1), by omega, rfl, hlt, p⟩, fun y H2 hy => ?_⟩
        obtain ⟨d, hd1, hd2⟩ := ha.getV hxi
        obtain ⟨T, z, rfl, hT, rfl, hz⟩ := hy
        have ez : z = xs[i] := Option.some.inj ((hz _ hq).symm.trans hxi)
        subst ez
        have c2 := ((c'.up (Ext.own (o := .tup [.int (i : Nat), xs[i]]) c'.ex.fh hT)).setF j (.int (i : Int))).setF l (hd2.up ef)
        refine ⟨T, _, rfl, .inl (.inl upd_same), rfl, _, _, rfl, _, _, rfl, rfl, ?_⟩
        refine hs i d ρ' hd1 hI F0 H0 F' _ _ _ c2 ?_ r ?_ ?_ x
        · intro F'' H'' σ'' ρ'' f'' c'' hI''
          exact ⟨F'', forget fl ρ'', c''.forget fl, ef.trans f'', hI''⟩
        · exact fun F'' H'' σ'' ρ'' f'' c'' => n F'' H'' σ'' ρ'' ((e1.ff.trans ef).trans f'') c''
        · intro F'' H'' σ'' ρ'' f'' c'' hI''
          exact ⟨F'', forget fl ρ'', c''.forget fl, ef.trans f'', hI''⟩
      · have e : i = xs.length := by omega
        subst e
        rw [ha.len] at hI
        exact .inl ⟨⟨xs, hq, Nat.le_refl _⟩, n F' H' σ' ρ' (e1.ff.trans ef) c' (hd ρ' hI)⟩
/-- while, by a number that falls -/
theorem s_while (I : Nat → List Sl → Prop) (m0 : Nat) (h0 : I m0 ρ) (hs : ∀ m ρ', I m ρ' → ∃ b, EvT K t ρ' b ∧
      (b = true → Run K E tu ρ' { P with nx := fun r => ∃ m', m' < m ∧ I m' r, bk := P.nx, ct := fun r => ∃ m', m' < m ∧ I m' r }) ∧ (b = false → P.nx ρ')) : Run K E (tWhile t tu) ρ P := fun F0 H0 F H σ D c n r b ct x => by
  refine ⟨fun m σ' H' => ∃ F' ρ', Cfg K F0 H0 F' H' σ' ρ' ∧ Ex F F' ∧ I m ρ', ⟨m0, F, ρ, c, .refl _, h0⟩, ?_⟩
  rintro m σ' H' ⟨F', ρ', c', ef, hI⟩
  obtain ⟨bb, hb, h1, h2⟩ := hs m ρ' hI
  refine hb F0 H0 F' H' σ' c' _ fun F1 H1 e1 => ?_
  cases bb with
  | true =>
    rw [if_pos rfl]
    refine ⟨fun σ2 H2 => ∃ m', m' < m ∧ ∃ F' ρ', Cfg K F0 H0 F' H2 σ2 ρ' ∧ Ex F F' ∧ I m' ρ', fun σ2 H2 p => p, ?_⟩
    refine h1 rfl F0 H0 F1 H1 σ' _ (c'.up e1) ?_ r ?_ ?_ x
    · rintro F'' H'' σ'' ρ'' f'' c'' ⟨m', hm, hI'⟩
      exact ⟨m', hm, F'', ρ'', c'', (ef.trans e1.ff).trans f'', hI'⟩
    · exact fun F'' H'' σ'' ρ'' f'' c'' => n F'' H'' σ'' ρ'' ((ef.trans e1.ff).trans f'') c''
    · rintro F'' H'' σ'' ρ'' f'' c'' ⟨m', hm, hI'⟩
      exact ⟨m', hm, F'', ρ'', c'', (ef.trans e1.ff).trans f'', hI'⟩
  | false =>
    rw [if_neg Bool.false_ne_true]
    exact n F1 H1 σ' ρ' (ef.trans e1.ff) (c'.up e1) (h2 rfl)

/-! ### comprehensions -/
/-- the list at D so far -/
def Cw (K : PySem.W.Frag) (F0 H0 F1 H1 : Hp) (σ : L2.St) (ρ : List Sl) (es : List Ed.D) (Dl : Addr) (i : Nat) (H' : Hp) : Prop :=
  H1 Dl = none ∧ ∃ F' xs, Ext F1 H1 F' H' ∧ F' Dl = none ∧ H' Dl = some (.lst xs) ∧ DvAll F' xs (es.take i)
theorem cw_start {F0 H0 F1 H1 : Hp} {σ : L2.St} {es : List Ed.D} {Dl : Addr} (c : Cfg K F0 H0 F1 H1 σ ρ) (hD : H1 Dl = none) : Cw K F0 H0 F1 H1 σ ρ es Dl 0 (upd H1 Dl (.lst [])) :=
  ⟨hD, F1, [], .own c.ex.fh hD, c.ex.fh.back hD, upd_same, .nil⟩
theorem cw_turn {F0 H0 F1 H1 H' : Hp} {σ : L2.St} {es : List Ed.D} {Dl : Addr} {i j : Nat} {e : Ed.D} {x : V} {d : Ed.D} (c : Cfg K F0 H0 F1 H1 σ ρ) (w : Cw K F0 H0 F1 H1 σ ρ es Dl i H') (hz : es.length ≤ sizeLine) (he : es[i]? = some e)
    (hx : ∀ F', Ex F1 F' → Dv F' x d) (hev : EvD K te (ρ.set j (.fz d)) e) :
    te ((L2.wipe σ [j]).set j (some x)) H' fun y H4 => ∃ acc, H4 Dl = some (.lst acc) ∧ acc.length < sizeLine ∧ Cw K F0 H0 F1 H1 σ ρ es Dl (i + 1) (upd H4 Dl (.lst (acc ++ [y]))) := by
  obtain ⟨h1, F', xs, ex, h2, h3, h4⟩ := w
  have c1 : Cfg K F0 H0 F' H' ((L2.wipe σ [j]).set j (some x)) (ρ.set j (.fz d)) := by
    have c2 := ((c.up ex).unset j).setF j (hx F' ex.ff)
    have e2 : (ρ.set j Sl.no).set j (Sl.fz d) = ρ.set j (.fz d) := List.set_set ..
    rw [e2] at c2
    exact c2
  have hi : i < es.length := by
    have := List.getElem?_eq_some_iff.mp he
    exact this.1
  refine hev F0 H0 F' H' _ c1 _ fun v F'' H'' e2 g => ⟨xs, e2.hh _ _ h3, ?_, ?_⟩
  · rw [h4.len, List.length_take]; omega
  · refine ⟨h1, F'', xs ++ [v], ⟨(ex.trans e2).hh.mut h1, (ex.trans e2).ff, (ex.trans e2).fh.mut (e2.none h2 h3), (ex.trans e2).nw⟩, e2.none h2 h3, upd_same, ?_⟩
    have q : es.take (i + 1) = es.take i ++ [e] := by rw [List.take_add_one, he]; rfl
    rw [q]
    exact (h4.up e2.ff).snoc g
theorem cw_end {F0 H0 F1 H1 H' : Hp} {σ : L2.St} {es : List Ed.D} {Dl : Addr} {n : Nat} (w : Cw K F0 H0 F1 H1 σ ρ es Dl n H') (hn : es.length = n) : ∃ F', Ext F1 H1 F' H' ∧ VOk K H1 F' H' (.ref Dl) (.ow es) := by
  obtain ⟨h1, F', xs, ex, h2, h3, h4⟩ := w
  rw [← hn, List.take_length] at h4
  exact ⟨F', ex, Dl, xs, rfl, ⟨h1, h2⟩, h3, h4⟩
theorem wipe1 {σ : L2.St} {j : Nat} {x : Option V} : L2.wipe ((L2.wipe σ [j]).set j x) [j] = L2.wipe σ [j] := by
  show ((σ.set j none).set j x).set j none = σ.set j none
  rw [List.set_set, List.set_set]
theorem ev_lcL {tl : TE} {j : Nat} {ds es : List Ed.D} (h : EvD K tl ρ (.list ds)) (hl : es.length = ds.length) (hz : es.length ≤ sizeLine)
    (he : ∀ (i : Nat) (d e : Ed.D), ds[i]? = some d → es[i]? = some e → EvD K te (ρ.set j (.fz d)) e) : EvR K (tLc (iList K tl) (gName j) tYes te [j]) ρ (.ow es) := fun F0 H0 F H σ c Q q =>
  h F0 H0 F H σ c _ fun v F1 H1 e1 g => by
    have g' : Dv F1 v (.list ds) := g
    cases g' with
    | lst hx ha =>
      rename_i a xs
      have c1 := c.up e1
      refine ⟨a, rfl, ⟨xs, .inl (.inl (e1.fh _ _ hx))⟩, fun Dl hD => lc_list (xs := xs) (Cw K F0 H0 F1 H1 σ ρ es Dl) (cw_start c1 hD) (fun i H' _ w => ?_) (fun i x H' hi w => ⟨wipe1, ?_⟩) (fun H' w => ?_)⟩
      · obtain ⟨_, F', _, ex, _⟩ := w
        exact .inl (.inl (ex.hh _ _ (e1.fh _ _ hx)))
      · obtain ⟨d, hd1, hd2⟩ := ha.getV hi
        have hlt : i < es.length := by rw [hl]; exact (List.getElem?_eq_some_iff.mp hd1).1
        refine iteT (B := Cw K F0 H0 F1 H1 σ ρ es Dl (i + 1) H') ?_
        exact cw_turn c1 w hz (List.getElem?_eq_getElem hlt) (fun F' f => hd2.up f) (he i d _ hd1 (List.getElem?_eq_getElem hlt))
      · obtain ⟨F', ex, ok⟩ := cw_end w (by rw [hl, ha.len])
        exact q _ F' H' (e1.trans ex) (ok.base e1.hh)
theorem ev_lcR1 {ta : TA} {j : Nat} {m : Int} {es : List Ed.D} (h : EvA K ta ρ [.fz (.int m)]) (hm : -(2 ^ 62) ≤ m ∧ m < 2 ^ 62) (hl : es.length = m.toNat) (hz : es.length ≤ sizeLine)
    (he : ∀ (i : Nat) (e : Ed.D), i < m.toNat → es[i]? = some e → EvD K te (ρ.set j (.fz (.int (i : Int)))) e) : EvR K (tLc (iRng1 ta) (gName j) tYes te [j]) ρ (.ow es) := fun F0 H0 F H σ c Q q =>
  h F0 H0 F H σ c _ fun vs F1 H1 e1 g => by
    obtain ⟨v, rfl, hv⟩ := g.one
    rw [hv.int_eq]
    have c1 := c.up e1
    refine ⟨m, rfl, hm.1, hm.2, fun Dl hD => lc_range (lo := 0) (n := m.toNat) (Cw K F0 H0 F1 H1 σ ρ es Dl) (cw_start c1 hD) (fun i H' hi w => ⟨wipe1, ?_⟩) (fun H' w => ?_)⟩
    · have hlt : i < es.length := by rw [hl]; exact hi
      refine iteT (B := Cw K F0 H0 F1 H1 σ ρ es Dl (i + 1) H') ?_
      have e0 : (0 : Int) + (i : Int) = (i : Int) := Int.zero_add _
      rw [e0]
      exact cw_turn c1 w hz (List.getElem?_eq_getElem hlt) (fun F' f => .int _) (he i _ hi (List.getElem?_eq_getElem hlt))
    · obtain ⟨F', ex, ok⟩ := cw_end w hl
      exact q _ F' H' (e1.trans ex) (ok.base e1.hh)
theorem ev_lcR2 {ta : TA} {j : Nat} {lo m : Int} {es : List Ed.D} (h : EvA K ta ρ [.fz (.int lo), .fz (.int m)]) (hm : (-(2 ^ 62) ≤ lo ∧ lo < 2 ^ 62) ∧ -(2 ^ 62) ≤ m ∧ m < 2 ^ 62) (hl : es.length = (m - lo).toNat) (hz : es.length ≤ sizeLine)
    (he : ∀ (i : Nat) (e : Ed.D), i < (m - lo).toNat → es[i]? = some e → EvD K te (ρ.set j (.fz (.int (lo + (i : Int))))) e) : EvR K (tLc (iRng2 ta) (gName j) tYes te [j]) ρ (.ow es) := fun F0 H0 F H σ c Q q =>
  h F0 H0 F H σ c _ fun vs F1 H1 e1 g => by
    obtain ⟨v, w, rfl, hv, hw⟩ := g.two
    rw [hv.int_eq, hw.int_eq]
    have c1 := c.up e1
    refine ⟨lo, m, rfl, ⟨hm.1.1, hm.1.2, hm.2.1, hm.2.2⟩, fun Dl hD => lc_range (lo := lo) (n := (m - lo).toNat) (Cw K F0 H0 F1 H1 σ ρ es Dl) (cw_start c1 hD) (fun i H' hi w => ⟨wipe1, ?_⟩) (fun H' w => ?_)⟩
    · have hlt : i < es.length := by rw [hl]; exact hi
      refine iteT (B := Cw K F0 H0 F1 H1 σ ρ es Dl (i + 1) H') ?_
      exact cw_turn c1 w hz (List.getElem?_eq_getElem hlt) (fun F' f => .int _) (he i _ hi (List.getElem?_eq_getElem hlt))
    · obtain ⟨F', ex, ok⟩ := cw_end w hl
      exact q _ F' H' (e1.trans ex) (ok.base e1.hh)
end

/-! ### defs -/
def postOf : Res → Post
  | .val s => { nx := fun _ => s = .fz .none, rt := fun t => t = s }
  | .exc c => { nx := fun _ => False, rt := fun _ => False, xs := fun d => d = c }
theorem args_cfg {K : PySem.W.Frag} {F H : Hp} (e : Ex F H) (n : Nat) {vs : List V} {rs : List Sl} (h : VsF K F vs rs) : Cfg K F H F H (vs.map some ++ List.replicate n none) (rs ++ List.replicate n .no) := by
  refine ⟨.refl e, by simp [h.len], fun _ _ => False, ⟨fun _ _ _ z => z.elim, fun _ _ z => z.elim⟩, fun _ _ z => z.elim, ?_⟩
  induction h with
  | nil =>
    intro i s hs
    have hm : s ∈ List.replicate n Sl.no := List.mem_of_getElem? hs
    rw [(List.mem_replicate.mp hm).2]
    trivial
  | fz hd _ ih =>
    intro i s hs
    cases i with
    | zero => cases hs; exact ⟨_, rfl, hd⟩
    | succ i => exact ih i s hs
  | sq hd _ ih =>
    intro i s hs
    cases i with
    | zero => cases hs; exact ⟨_, rfl, _, rfl, hd⟩
    | succ i => exact ih i s hs
end Ed

namespace Ed
open PySem PySem.Spec PyProof.Rows L2

/-! ### defs, where no repr is under way -/
structure FnG (P : Program) (w : World) (K : PySem.W.Frag) (mg : Str → Option Value) (base : Heap) (CX : CXT) (k : Nat) (f : Addr) (fd : FuncData) (n : Nat) (ps : List Str) (sp : Sp) : Prop where
  len : ∀ vs H Q E, sp vs H Q E → vs.length = n
  go : ∀ (A : Around) (outer : List Env) (s : Shared) (H : Hp) (args : Args) (us : List Value) (vs : List V) (Q : VK) (E : XK), Room k A → A.guards = some [] → Env0 P w K mg base A outer s H →
    BindsTo s fd args (ps.zip us) → Vals vs us → sp vs H Q E → codeAny (model P w) A (.call (.ref f) args) (CR CX outer P w H s Q E) s
theorem FnG.mono {P : Program} {w : World} {K : PySem.W.Frag} {mg : Str → Option Value} {base : Heap} {CX : CXT} {j k n : Nat} {f : Addr} {fd : FuncData} {ps : List Str} {sp : Sp} (F : FnG P w K mg base CX j f fd n ps sp) (h : j ≤ k) :
    FnG P w K mg base CX k f fd n ps sp := ⟨F.len, fun A o s H a us vs Q E r => F.go A o s H a us vs Q E (r.mono h)⟩
/-- the body's end, told to the caller -/
theorem leave_body {P : Program} {w : World} {K : PySem.W.Frag} {mg : Str → Option Value} {base : Heap} {CX : CXT} {N : List Str} {qual : Str} {scope : Scope} {f : Addr} {cdv : Value} {A : Around} {outer : List Env} {s s' : Shared} {H : Hp} {Q : VK} {E : XK} {fl : Flow}
    (hs : SP (cxOf CX P w K mg base N qual scope f cdv A outer s H E) [] { nx := fun _ H' => Q .non H', rt := Q } fl s') : ∃ u, CE outer P w H s Q u s' ∧ (fl = .ret u ∨ (fl = .next ∧ u = Value.none)) := by
  cases fl with
  | next =>
    obtain ⟨_, H', J, q⟩ := hs
    exact ⟨.none, ⟨.non, H', J.os, J.bare, J.base, J.hok, rfl, q⟩, .inr ⟨rfl, rfl⟩⟩
  | ret u =>
    obtain ⟨v, _, H', J, rv, q⟩ := hs
    exact ⟨u, ⟨v, H', J.os, J.bare, J.base, J.hok, rv, q⟩, .inl rfl⟩
  | brk => exact (hs.elim fun _ h => h.elim fun _ h => h.2).elim
  | cont => exact (hs.elim fun _ h => h.elim fun _ h => h.2).elim
theorem fnG_of {CX : CXT} {P : Program} {w : World} {K : PySem.W.Frag} {mg : Str → Option Value} {base : Heap} {k : Nat} {f : Addr} {x qual : Str} {st : Stmt} {fd : FuncData} {N ps : List Str} {sp : Sp}
    (F : Fun K x qual st f fd) (S : FnScope N ps (defScope st)) (len : ∀ vs H Q E, sp vs H Q E → vs.length = ps.length)
    (hbody : ∀ (cdv : Value) (A : Around) (outer : List Env) (s : Shared) (H : Hp) (vs : List V) (Q : VK) (E : XK), Room k (A.deeper (envOfC qual (defScope st) s.heap.objs.size f cdv)) → A.guards = some [] → sp vs H Q E →
      ∃ t, PSs (cxOf CX P w K mg base N qual (defScope st) f cdv A outer s H E) (defBody st) t ∧ t { nx := fun _ H' => Q .non H', rt := Q } (start N vs) H) :
    FnG P w K mg base CX (k + 1) f fd ps.length ps sp := by
  obtain ⟨oc, od, kV, doc, pm, an, cdv, ct, osl, rfl, lk, hcd⟩ := F.ex
  refine ⟨len, ?_⟩
  intro A outer s H args us vs Q E hr hG e0 hb r hsp
  have old : ∀ b o, base.get? b = some o → s.heap.get? b = some o := fun b o e => (e0.bs b o e).1
  have kin : K.In s.heap := e0.mod.kin.keeps old
  have nolim : s.heap.NoLimit := e0.mod.nolimit.keeps old
  have kinds : ∀ y ∈ ps.zip us, (defScope st).names.lookup y.1 = some .local ∨ ((defScope st).names.lookup y.1 = some .cell ∧ ((cellsFrom (s.heap.objs.size + 1) (defScope st).names []).lookup y.1).isSome = true) := by
    intro y hy
    rcases S.par y.1 (List.of_mem_zip (show (y.1, y.2) ∈ _ from hy)).1 with q | q
    · exact Or.inl q
    · exact Or.inr ⟨q, PySem.W.cellsFrom_some _ _ _ (Or.inl q)⟩
  refine codeAny_call_function hr.depth (kin _ _ lk) rfl S.co S.gen rfl (PySem.W.codeRec_of kin hcd) (hb _ _ _ _ ?_)
  refine wpAny_newFunctionEnv_cells S.kind kinds ?_
  intro env henv s1 inc
  subst henv
  obtain ⟨t, ht, hq⟩ := hbody cdv A outer s H vs Q E (hr.deeper _) hG hsp
  have I := inv_start (CX := CX) (P := P) (w := w) (K := K) (mg := mg) (base := base) (N := N) (E := E) S hr.hd e0 (len _ _ _ _ hsp) r inc
  refine ⟨nolim.keeps inc.toInCall.keep, codeAny_func (wpAny_mono (ht.run [] s1 (start N vs) H _ I hq) ?_ fun e s' he => he)⟩
  intro fl s' hs
  obtain ⟨u, hce, hfl⟩ := leave_body hs
  rcases hfl with rfl | ⟨rfl, rfl⟩
  · exact hce
  · exact hce

/-- a def is called by its name -/
structure Cal (P : Program) (w : World) (K : PySem.W.Frag) (mg : Str → Option Value) (base : Heap) (CX : CXT) (x : Str) (ps : List Str) (k : Nat) (sp : Sp) : Prop where
  ex : ∃ (f : Addr) (fd : FuncData), FnG P w K mg base CX k f fd ps.length ps sp ∧ mg x = some (.ref f) ∧ PySem.W.keepIn K (.ref f) = true ∧ Binds K fd ps []
section
variable {P : Program} {w : World} {K : PySem.W.Frag} {mg : Str → Option Value} {base : Heap} {X : Cx} {CX : CXT} {x : Str} {ps : List Str} {k j : Nat} {sp : Sp} {p pos : Pos} {e : Expr} {es : List Expr} {t : TA}
theorem Cal.mono (c : Cal P w K mg base CX x ps j sp) (h : j ≤ k) : Cal P w K mg base CX x ps k sp := by
  obtain ⟨f, fd, h1, h2⟩ := c.ex
  exact ⟨f, fd, h1.mono h, h2⟩
/-- a call, whatever its end is; E hangs on the slots -/
theorem pe_calS {E : L2.St → XK} (c : Cal X.prog X.w X.K X.mg X.base CX x ps j sp) (hr : Room k X.A) (hG : X.A.guards = some []) (hjk : j ≤ k) (hg : Gl X x) (hx : ∀ σ, PassesAt CX X σ (E σ)) (ha : PA X (e :: es) t) (hdb : (x == ("__debug__" : Str)) = false := by decide)
    (he : starEach (e :: es) X.env = (false, eval e X.env) :: starEach es X.env := by rfl) (hpl : (backTo pos (starEach es X.env)).any (·.1) = false := by rfl) : PE X (.Call (.Name x p) (e :: es) [] pos) (tCallS sp E t) := by
  obtain ⟨f, fd, hF, hm, hk, hb⟩ := c.ex
  refine ⟨fun pins s σ H Q I h => wpAny_Call_Name_kw (ld_glob I hg hm ?_ hdb)⟩
  refine PySem.W.callWith_K (h₀ := X.base) I.ok.mod.kin hk (thn (ha.run pos pins s σ H _ I h) ?_) he hpl
  rintro us s1 ⟨vs, H1, I1, r, q⟩
  refine ⟨I1.kIn, ?_⟩
  have hl : us.length = ps.length := r.length.symm.trans (hF.len _ _ _ _ q)
  have b : BindsTo s1 fd ⟨us, []⟩ (ps.zip us) := by
    have b0 := hb s1 us I1.kIn ((congrArg List.length (List.append_nil us)).trans hl)
    rw [List.append_nil] at b0
    exact b0
  refine wpAny_call (codeAny_mono (hF.go X.A X.stack s1 H1 ⟨us, []⟩ us vs Q (E σ) (hr.mono hjk) hG I1.env0 b r q) ?_)
  intro r s' hq
  match r, hq with
  | .error ee, hq => exact hx σ pins H1 s1 ee s' I1 hq
  | .ok (.ret u), hq => exact I1.after hq
theorem pe_cal (c : Cal X.prog X.w X.K X.mg X.base CX0 x ps j sp) (hr : Room k X.A) (hG : X.A.guards = some []) (hjk : j ≤ k) (hg : Gl X x) (ha : PA X (e :: es) t) (hdb : (x == ("__debug__" : Str)) = false := by decide)
    (he : starEach (e :: es) X.env = (false, eval e X.env) :: starEach es X.env := by rfl) (hpl : (backTo pos (starEach es X.env)).any (·.1) = false := by rfl) : PE X (.Call (.Name x p) (e :: es) [] pos) (tCallS sp (fun _ => E0) t) :=
  pe_calS c hr hG hjk hg (fun σ pins H s e s' I h => h.elim) ha hdb he hpl
theorem ev_callS {ρ : List Sl} {R : List Sl → Res → Prop} {E : L2.St → XK} {ta : TA} {rs : List Sl} {s : Sl} (h : EvA K ta ρ rs) (hR : R rs (.val s)) : EvR K (tCallS (SpR K R) E ta) ρ s := fun F0 H0 F H σ c Q q =>
  h F0 H0 F H σ c _ fun vs F1 H1 e1 gs => ⟨F1, rs, .val s, e1.fh, gs, hR, fun v F2 H2 e2 g => q v F2 H2 (e1.trans e2) (g.base e1.hh)⟩
/-- what a body does is what the promise says -/
theorem body_ok {N : List Str} {R : List Sl → Res → Prop} {t : TS} {vs : List V} {H : Hp} {Q : VK} {E : XK} (hrun : ∀ rs r, R rs r → Run K E t (rs ++ List.replicate (N.length - rs.length) .no) (postOf r)) (h : SpR K R vs H Q E) :
    t { nx := fun _ H' => Q .non H', rt := Q } (start N vs) H := by
  obtain ⟨F, rs, r, fh, hv, hR, hq⟩ := h
  have c := args_cfg (K := K) fh (N.length - vs.length) hv
  have hrun' := hrun rs r hR
  rw [← hv.len] at hrun'
  refine hrun' F H F H _ _ c ?_ ?_ ?_ ?_ ?_
  · intro F' H' σ' ρ' f' c' m
    cases r with
    | val s =>
      have m : s = .fz .none := m
      subst m
      exact hq .non F' H' c'.ex .non
    | exc _ => exact False.elim m
  · intro v s F' H' e' g m
    cases r with
    | val s' =>
      have m : s = s' := m
      subst m
      exact hq v F' H' e' g
    | exc _ => exact False.elim m
  · intro F' H' σ' ρ' f' c' m
    cases r <;> exact False.elim m
  · intro F' H' σ' ρ' f' c' m
    cases r <;> exact False.elim m
  · intro c F' H' e' m
    cases r with
    | val _ => exact False.elim m
    | exc c' =>
      have m : c = c' := m
      subst m
      exact hq F' H' e'
theorem spr_len {R : List Sl → Res → Prop} {n : Nat} (len : ∀ rs r, R rs r → rs.length = n) : ∀ vs H Q E, SpR K R vs H Q E → vs.length = n := fun vs H Q E h => by
  obtain ⟨F, rs, r, _, hv, hR, _⟩ := h
  rw [hv.len]; exact len rs r hR
/-- a def of the text, its body's term and what it does -/
theorem def_ok {st : Stmt} {f : Addr} {fd : FuncData} {N : List Str} {R : List Sl → Res → Prop} (F : Fun K x x st f fd) (hm : mg x = some (.ref f)) (hb : Binds K fd ps []) (S : FnScope N ps (defScope st)) (len : ∀ rs r, R rs r → rs.length = ps.length)
    (hbody : ∀ (cdv : Value) (A : Around) (outer : List Env) (s : Shared) (H : Hp) (E : XK), Room k (A.deeper (envOfC x (defScope st) s.heap.objs.size f cdv)) → (A.deeper (envOfC x (defScope st) s.heap.objs.size f cdv)).guards = some [] →
      ∃ t, PSs (cxOf CX0 P w K mg base N x (defScope st) f cdv A outer s H E).nox (defBody st) t ∧ ∀ rs r, R rs r → Run K E t (rs ++ List.replicate (N.length - rs.length) .no) (postOf r)) : Cal P w K mg base CX0 x ps (k + 1) (SpR K R) := by
  refine ⟨f, fd, fnG_of F S (spr_len len) (fun cdv A outer s H vs Q E hr hG h => ?_), hm, F.kp, hb⟩
  obtain ⟨t, ht, hrun⟩ := hbody cdv A outer s H E hr hG
  exact ⟨t, ht.nox, body_ok hrun h⟩
/-- .. that may raise -/
theorem def_okX {st : Stmt} {f : Addr} {fd : FuncData} {N : List Str} {R : List Sl → Res → Prop} (F : Fun K x x st f fd) (hm : mg x = some (.ref f)) (hb : Binds K fd ps []) (S : FnScope N ps (defScope st)) (len : ∀ rs r, R rs r → rs.length = ps.length)
    (hbody : ∀ (cdv : Value) (A : Around) (outer : List Env) (s : Shared) (H : Hp) (E : XK), Room k (A.deeper (envOfC x (defScope st) s.heap.objs.size f cdv)) → (A.deeper (envOfC x (defScope st) s.heap.objs.size f cdv)).guards = some [] →
      ∃ t, PSs (cxOf (L2.CX P w) P w K mg base N x (defScope st) f cdv A outer s H E) (defBody st) t ∧ ∀ rs r, R rs r → Run K E t (rs ++ List.replicate (N.length - rs.length) .no) (postOf r)) : Cal P w K mg base (L2.CX P w) x ps (k + 1) (SpR K R) := by
  refine ⟨f, fd, fnG_of F S (spr_len len) (fun cdv A outer s H vs Q E hr hG h => ?_), hm, F.kp, hb⟩
  obtain ⟨t, ht, hrun⟩ := hbody cdv A outer s H E hr hG
  exact ⟨t, ht, body_ok hrun h⟩
end

/-! ### rules that the layer lacks -/
section
variable {X : Cx} {K : PySem.W.Frag}
theorem ip_mulC : PIp X .Mult (rI CMul fun i j => .int (i * j)) := by
  intro pins s σ H x y v u Q I r1 r2 h
  exact augR iop_mul I r1 r2 h
/-- repr of data -/
def rReprD (K : PySem.W.Frag) : List V → Hp → VK → Prop := fun xs H Q => ∃ (p : Addr) (d : PyData), xs = [.ref p] ∧ Dp K H (.ref p) d ∧ d.showable = true ∧ d.hasDict = false ∧ d.depth ≤ 60 ∧ d.shown.length ≤ sizeLine ∧ Q (.str d.shown) H
theorem call_reprD {k : Nat} (hr : Room k X.A) (hG : X.A.guards = some []) : CallR X (.builtin "repr") (rReprD X.K) := by
  intro pins s σ H xs us Q I r h
  obtain ⟨p, d, rfl, hd, hs, hn, hdep, hz, q⟩ := h
  obtain ⟨u, rfl, ru⟩ := vals1 r
  cases ru
  obtain ⟨as, hr'⟩ := Dp.reads I d (.ref p) (.ref p) hd rfl
  refine repr_of_reads' (h₀ := s.heap) hr' hs (fun z => by rw [hn] at z; cases z) hG (by have := hr.units; omega) (fun _ _ e => e) (fun h' u' tk hk => ?_) hz
  exact ⟨.str d.shown, H, I.kept (h' := h') (t' := tk) hk, ⟨u', rfl⟩, q⟩
/-- data whose text is short -/
def shows (d : D) : Bool := d.showable && !d.hasDict && decide (d.depth ≤ 60) && decide (d.shown.length ≤ sizeLine)
theorem rc_repr {d : D} (hd : ∀ i, d ≠ .int i) (hs : d.showable = true) (hn : d.hasDict = false) (hp : d.depth ≤ 60) (hz : d.shown.length ≤ sizeLine) (hk : (∃ ds, d = .list ds) ∨ ∃ ds, d = .tuple ds) : RC K (rReprD K) [.fz d] (.fz (.str d.shown)) := fun vs F H fh g Q q => by
  obtain ⟨v, rfl, h⟩ := g.one
  have e : ∃ p, v = .ref p := by
    rcases hk with ⟨ds, rfl⟩ | ⟨ds, rfl⟩
    · cases h; exact ⟨_, rfl⟩
    · cases h; exact ⟨_, rfl⟩
  obtain ⟨p, rfl⟩ := e
  exact ⟨p, d, rfl, (Dv.up h fh).toDp, hs, hn, hp, hz, q _ F H (.refl fh) (.str _)⟩
end
end Ed

namespace Ed
open PySem PySem.Spec PyProof.Rows L2

/-! ### the end of a law -/
section
variable {P : Program} {w : World} {K : PySem.W.Frag} {mg mb : Str → Option Value}
/-- the heap that tracks the script alone, where the text does not own it -/
def scrH (K : PySem.W.Frag) (a : Addr) (o : Obj) (xs : List V) : Hp := fun b => if b = a ∧ K.lookup a = none then some (.frz o (.lst xs)) else none
theorem scrH_some {a b : Addr} {o : Obj} {xs : List V} {u : HO} (h : scrH K a o xs b = some u) : b = a ∧ K.lookup a = none ∧ u = .frz o (.lst xs) := by
  unfold scrH at h
  split at h
  · rename_i c
    exact ⟨c.1, c.2, (Option.some.inj h).symm⟩
  · cases h
abbrev scO (vs : List Value) : Obj := { cls := .type "list", data := .seq vs.toArray }
variable {a : Addr} {vs : List Value} {ns : List Int} {s : Shared}
theorem scrH_seq (ha : s.heap.get? a = some (scO vs)) (KX : K.In s.heap) (rv : Vals (ns.map V.int) vs) (hz : vs.length ≤ sizeLine) : SqL K (scrH K a (scO vs) (ns.map V.int)) a (ns.map V.int) := by
  cases hk : K.lookup a with
  | none => exact Or.inl (Or.inr ⟨scO vs, if_pos ⟨rfl, hk⟩⟩)
  | some o =>
    have e : o = scO vs := Option.some.inj ((KX a o hk).symm.trans ha)
    subst e
    exact Or.inr ⟨_, vs.toArray, _, hk, rfl, rfl, rfl, by rw [List.size_toArray]; exact hz, by rw [List.toList_toArray]; exact rv⟩
theorem scrH_ok (ha : s.heap.get? a = some (scO vs)) (rv : Vals (ns.map V.int) vs) (hz : vs.length ≤ sizeLine) : HOk P w (scrH K a (scO vs) (ns.map V.int)) s.heap := by
  intro b u h
  obtain ⟨rfl, _, rfl⟩ := scrH_some h
  exact ⟨ha, by rw [rv.length]; exact hz, vs, _, rv, ha⟩
/-- what is no list of the script's stays in the base -/
theorem scrH_ns (ha : s.heap.get? a = some (scO vs)) {b : Addr} {m : Str → Option Value} (h : s.heap.Ns b m) : (hidT s.heap (scrH K a (scO vs) (ns.map V.int))).Ns b m := by
  obtain ⟨o, es, ep, e, d, r⟩ := h
  refine ⟨o, es, ep, hidT_get e ?_, d, r⟩
  cases q : scrH K a (scO vs) (ns.map V.int) b with
  | none => rfl
  | some u =>
    obtain ⟨rfl, _, _⟩ := scrH_some q
    have e2 : o = scO vs := Option.some.inj (e.symm.trans ha)
    subst e2
    have d2 : Data.seq vs.toArray 0 = Data.dict es ep := d
    cases d2
theorem law_end {CX : CXT} {k : Nat} {x : Str} {R : List Sl → Res → Prop} {fa : Addr} (KX : K.In s.heap) (hns : s.heap.Ns mainGlobals mg) (hb : s.heap.Ns builtinsNs mb) (hbb : ∀ x : Str, x ≠ "__name__" → mb x = bootBuiltins x) (hlim : s.heap.NoLimit) (hg : s.gens = #[])
    (ha : s.heap.get? a = some (scO vs)) (hi : IntsAre vs ns) (hz : vs.length ≤ sizeLine) (hr : Room k callerA) (hmg : mg x = some (.ref fa))
    (F : ∀ base : Heap, K.In base → base.Ns mainGlobals mg → ∃ (fd : FuncData) (ps : List Str), FnG P w K mg base CX k fa fd 1 ps (SpR K R) ∧ ∀ (s : Shared) (u : Value), K.In s.heap → BindsTo s fd ⟨[u], []⟩ (ps.zip [u]))
    (hR : R [.sq (ns.map V.int)] (.val (.fz (.bool true)))) (hCX : ∀ H e s', CX [] H s (fun _ _ _ => False) e s' → False) :
    codeAny (model P w) callerA (.call (.ref fa) ⟨[.ref a], []⟩) (fun r s' => r = .ok (.ret (.bool true)) ∧ OldK s.heap s'.heap ∧ s'.os = s.os ∧ AllBare s'.gens) s := by
  have rv : Vals (ns.map V.int) vs := vals_ints hi
  generalize hH : scrH K a (scO vs) (ns.map V.int) = H
  have kb : K.In (hidT s.heap H) := by
    intro b o e
    refine hidT_get (KX b o e) ?_
    subst hH
    cases q : scrH K a (scO vs) (ns.map V.int) b with
    | none => rfl
    | some u =>
      obtain ⟨rfl, z, _⟩ := scrH_some q
      rw [z] at e
      cases e
  have gb : (hidT s.heap H).Ns mainGlobals mg := by subst hH; exact scrH_ns ha hns
  have md : Mod K mg (hidT s.heap H) := by
    refine ⟨kb, gb, ⟨mb, ?_, hbb⟩, ?_⟩
    · subst hH; exact scrH_ns ha hb
    · obtain ⟨mc, h1, h2⟩ := hlim
      exact ⟨mc, by subst hH; exact scrH_ns ha h1, h2⟩
  have hok : HOk P w H s.heap := by subst hH; exact scrH_ok ha rv hz
  have e0 : Env0 P w K mg (hidT s.heap H) callerA [] s H :=
    { frames := rfl, mod := md, bs := fun b o e => of_hidT e, bsz := Nat.le_of_eq (hidT_size _ _), funs := trivial, frf := fun b hb => (nomatch (show b ∈ ([] : List Addr) from hb)), hok := hok, bare := .of_eq hg }
  obtain ⟨fd, ps, G, bd⟩ := F _ kb gb
  have sp : SpR K R [.ref a] H (fun v _ => v = .bl true) (fun _ _ _ => False) := by
    refine ⟨H, _, _, Ex.refl H, .sq (by subst hH; exact scrH_seq ha KX rv hz) .nil, hR, ?_⟩
    intro v F' H' _ g
    exact Dv.bool_eq g
  refine codeAny_mono (G.go callerA [] s H ⟨[.ref a], []⟩ [.ref a] [.ref a] _ _ hr rfl e0 (bd s (.ref a) KX) (.cons rfl .nil) sp) ?_
  intro r s' h
  match r, h with
  | .error e, h => exact (hCX H e s' h).elim
  | .ok (.ret u), h =>
    obtain ⟨v, H', os, bare, un, hok', r', q⟩ := h
    have q' : v = .bl true := q
    subst q'
    have r2 : u = Value.bool true := r'
    subst r2
    refine ⟨rfl, OldK.of_keep ?_, os, bare⟩
    intro b o e
    cases q : H b with
    | none => exact un.keep b o e q (fun z => nomatch (show b ∈ ([] : List Addr) from z)) (fun z => nomatch z)
    | some u =>
      have q2 := q
      rw [← hH] at q2
      obtain ⟨rfl, _, rfl⟩ := scrH_some q2
      have e1 := (hok' b _ (un.frzs b _ _ q)).1
      have e2 : o = scO vs := Option.some.inj (e.symm.trans ha)
      rw [e2]
      exact e1
end
/-- a law's call, from its def's promise -/
theorem walk_G {l : PySem.W.OpenLaw} {n k : Nat} {q : Program} {loose : List Str} {XP : (Str → Option Value) → Heap → Prop} {YP : World → Heap → Prop} {d : DefRec} {K : Params → PySem.W.Frag} {R : List Sl → Res → Prop}
    (hn : l.most = some n) (hn2 : n ≤ sizeLine) (hdf : d.params.defaults = []) (hr : Room k callerA) (hY : ∀ (w : World) (h : Heap), YP w h → (K w.params).In h)
    (F : ∀ (w : World) (mg : Str → Option Value) (fa : Addr) (h : Heap), (K w.params).In h → h.Ns mainGlobals mg → mg d.name = some (.ref fa) → ∀ base : Heap, (K w.params).In base → base.Ns mainGlobals mg →
      ∃ (fd : FuncData) (ps : List Str), FnG l.prog w (K w.params) mg base CX0 k fa fd 1 ps (SpR (K w.params) R) ∧ ∀ (s : Shared) (u : Value), (K w.params).In s.heap → BindsTo s fd ⟨[u], []⟩ (ps.zip [u]))
    (hR : ∀ ns : List Int, ns.length ≤ n → (∀ i ∈ ns, Builtin.Int.intBits i ≤ 1048576) → R [.sq (ns.map V.int)] (.val (.fz (.bool true)))) :
    PySem.W.WalkO q loose XP YP l.row.toRowW d [] (fun f vs => PySem.call f vs) := by
  refine Att.attach_callB hn hdf ?_
  intro w s0 s1 mg mb fa o pm cd doc a vs ns G Y ho hd hcd hmg hobj hints hlen hbits hg
  have KX := hY w _ Y
  have lv : vs.length ≤ sizeLine := by have h1 := hints.length; have h2 := Nat.le_trans hlen hn2; omega
  exact law_end KX G.T.g G.T.b G.T.builtins G.T.nolimit hg hobj hints lv hr hmg (F w mg fa _ KX G.T.g hmg) (hR ns hlen hbits) fun _ _ _ h => h
end Ed

namespace Ed
open PySem PySem.Spec PyProof.Rows L2

/-! ## what the helpers of a law compute -/
def cellAt (ns : List Int) (k : Int) : Int := if k < (ns.length : Int) then ns.getD k.toNat 0 else 0
inductive R__law_cell : List Sl → Res → Prop
  | mk (ns : List Int) (k : Int) (h : 0 ≤ k) : R__law_cell [.sq (ns.map V.int), .fz (.int k)] (.val (.fz (.int (cellAt ns k))))

inductive R__law_power : List Sl → Res → Prop
  | mk (size e : Int) (h : -(2 ^ 64) < size ∧ size < 2 ^ 64) (he : -(2 ^ 62) ≤ e ∧ e < 2 ^ 62) : R__law_power [.fz (.int size), .fz (.int e)] (.val (.fz (.int (size ^ e.toNat))))

def lawIndex (cells : List Int) (size : Int) : Int := cells.foldl (fun i c => i * size + c) 0
inductive R__law_index : List Sl → Res → Prop
  | mk (cells : List Int) (size : Int) (h : -(2 ^ 64) < size ∧ size < 2 ^ 64) : R__law_index [.fz (.list (iL cells)), .fz (.int size)] (.val (.fz (.int (lawIndex cells size))))
inductive R_word_number : List Sl → Res → Prop
  | mk (cells : List Int) (size : Int) (h : -(2 ^ 64) < size ∧ size < 2 ^ 64) : R_word_number [.fz (.int size), .fz (.list (iL cells))] (.val (.fz (.int (lawIndex cells size))))

def digSt (index size : Int) : Nat → List Int × Int
  | 0 => ([], index)
  | k + 1 => ((digSt index size k).2 % size :: (digSt index size k).1, (digSt index size k).2 / size)
def lawDigits (index size : Int) (w : Nat) : List Int := (digSt index size w).1
theorem digSt_len (index size : Int) : ∀ k, (digSt index size k).1.length = k
  | 0 => rfl
  | k + 1 => congrArg (· + 1) (digSt_len index size k)
inductive R__law_digits : List Sl → Res → Prop
  | mk (index size : Int) (w : Nat) (h : 0 < size ∧ size < 1073741824) (hw : w < 10000) : R__law_digits [.fz (.int index), .fz (.int size), .fz (.int (w : Int))] (.val (.ow (iL (lawDigits index size w))))

def absI (i : Int) : Int := if i < 0 then -i else i
def drawS1 (s : Int) : Int := (s * 48271 + 11) % 2147483647
def drawS2 (s : Int) : Int := (drawS1 s * 69621 + 7) % 2147483647
def drawStep (free : Bool) (x : List Int × Int × Int) (l : Int) : List Int × Int × Int :=
  if (free && decide (1 < x.2.1)) = true then (x.1 ++ [x.2.1 % l], x.2.1 / l, x.2.2) else (x.1 ++ [drawS2 x.2.2 / 13 % l], x.2.1, drawS2 x.2.2)
def drawFree (cell : Int) : Bool := decide (cell < 0) || decide ((10 : Int) ^ (18 : Int).toNat ≤ cell)
def drawSt (cell : Int) (limits : List Int) : List Int × Int × Int := limits.foldl (drawStep (drawFree cell)) ([], absI cell, absI cell % 2147483647)
def lawDraws (cell : Int) (limits : List Int) : List Int := (drawSt cell limits).1
theorem drawSt_snoc (cell : Int) (limits : List Int) (l : Int) : drawSt cell (limits ++ [l]) = drawStep (drawFree cell) (drawSt cell limits) l := by
  unfold drawSt
  rw [List.foldl_append]; rfl
theorem drawStep_len (free : Bool) (x : List Int × Int × Int) (l : Int) : (drawStep free x l).1.length = x.1.length + 1 := by
  unfold drawStep
  split <;> simp
theorem take_succ_some {α : Type} {l : List α} {i : Nat} {x : α} (h : l[i]? = some x) : l.take (i + 1) = l.take i ++ [x] := by
  rw [List.take_add_one, h]; rfl
theorem drawSt_take_len (cell : Int) (limits : List Int) : ∀ i, i ≤ limits.length → (drawSt cell (limits.take i)).1.length = i
  | 0, _ => rfl
  | i + 1, h => by
    have hi : i < limits.length := h
    rw [take_succ_some (List.getElem?_eq_getElem hi), drawSt_snoc, drawStep_len, drawSt_take_len cell limits i (by omega)]
theorem draws_len (cell : Int) (limits : List Int) : (lawDraws cell limits).length = limits.length := by
  have h := drawSt_take_len cell limits limits.length (Nat.le_refl _)
  rw [List.take_length] at h
  exact h
inductive R__law_draws : List Sl → Res → Prop
  | mk (cell : Int) (limits : List Int) (h : ∀ l ∈ limits, 0 < l ∧ l < 1073741824) (hz : limits.length < 100000) : R__law_draws [.fz (.int cell), .fz (.list (iL limits))] (.val (.ow (iL (lawDraws cell limits))))

theorem iL_get {ns : List Int} {i : Nat} {d : D} (h : (iL ns)[i]? = some d) : ∃ k, ns[i]? = some k ∧ d = .int k := by
  unfold iL at h
  rw [List.getElem?_map] at h
  cases e : ns[i]? with
  | none => rw [e] at h; cases h
  | some k => rw [e] at h; cases h; exact ⟨k, rfl, rfl⟩
theorem iL_at {ns : List Int} {i : Nat} {k : Int} (h : ns[i]? = some k) : (iL ns)[i]? = some (.int k) := by
  unfold iL
  rw [List.getElem?_map, h]; rfl
theorem iL_len (ns : List Int) : (iL ns).length = ns.length := by unfold iL; rw [List.length_map]
theorem iL_app (ns ms : List Int) : iL (ns ++ ms) = iL ns ++ iL ms := by unfold iL; rw [List.map_append]
theorem small100 {n : Nat} (h : n < 100000) : n < sizeLine := Nat.lt_of_lt_of_le h (by decide)
theorem small100' {n : Nat} (h : n ≤ 100000) : n ≤ sizeLine := Nat.le_trans h (by decide)
theorem atI_of {α : Type} {xs : List α} {i : Nat} {x : α} (h : xs[i]? = some x) : atI xs (i : Int) = some x := atI_nat h
end Ed

namespace Ed
open PySem PySem.Spec PyProof.Rows L2

/-! ## numbers of words -/
theorem idx_app (a b : List Int) (s : Int) : lawIndex (a ++ b) s = lawIndex a s * s ^ b.length + lawIndex b s := by
  have key : ∀ (b : List Int) (x : Int), b.foldl (fun i c => i * s + c) x = x * s ^ b.length + b.foldl (fun i c => i * s + c) 0 := by
    intro b
    induction b with
    | nil => intro x; simp
    | cons c r ih =>
      intro x
      rw [List.foldl_cons, List.foldl_cons, ih (x * s + c), ih (0 * s + c), List.length_cons, Int.pow_succ, Int.add_mul, Int.zero_mul, Int.zero_add, Int.mul_assoc, Int.mul_comm s, Int.add_assoc]
  unfold lawIndex
  rw [List.foldl_append, key b]
theorem idx_snoc (a : List Int) (c s : Int) : lawIndex (a ++ [c]) s = lawIndex a s * s + c := by
  unfold lawIndex
  rw [List.foldl_append]; rfl
def InR (s : Int) (cs : List Int) : Prop := ∀ c ∈ cs, 0 ≤ c ∧ c < s
theorem pow_pos' {s : Int} (h : 0 < s) (n : Nat) : 0 < s ^ n := Int.pow_pos h
theorem idx_bound {s : Int} (hs : 0 < s) : ∀ (cs : List Int), InR s cs → 0 ≤ lawIndex cs s ∧ lawIndex cs s < s ^ cs.length
  | [], _ => by simp [lawIndex]
  | c :: r, h => by
    have ih := idx_bound hs r (fun x hx => h x (List.mem_cons_of_mem _ hx))
    have e : lawIndex (c :: r) s = c * s ^ r.length + lawIndex r s := by
      have := idx_app [c] r s
      simpa [lawIndex] using this
    have hc := h c (List.mem_cons_self ..)
    have hp := pow_pos' hs r.length
    rw [e, List.length_cons, Int.pow_succ]
    refine ⟨Int.add_nonneg (Int.mul_nonneg hc.1 (Int.le_of_lt hp)) ih.1, ?_⟩
    have h1 : c * s ^ r.length ≤ (s - 1) * s ^ r.length := Int.mul_le_mul_of_nonneg_right (by omega) (Int.le_of_lt hp)
    have h2 : (s - 1) * s ^ r.length = s ^ r.length * s - s ^ r.length := by rw [Int.sub_mul, Int.one_mul, Int.mul_comm]
    omega
theorem InR.app {s : Int} {a b : List Int} (ha : InR s a) (hb : InR s b) : InR s (a ++ b) := fun c hc => (List.mem_append.mp hc).elim (ha c) (hb c)
theorem InR.take {s : Int} {a : List Int} (h : InR s a) (n : Nat) : InR s (a.take n) := fun c hc => h c (List.mem_of_mem_take hc)
theorem InR.drop {s : Int} {a : List Int} (h : InR s a) (n : Nat) : InR s (a.drop n) := fun c hc => h c (List.mem_of_mem_drop hc)
theorem idx_window {s : Int} (hs : 0 < s) {word : List Int} (hw : InR s word) {i w : Nat} (hi : i ≤ word.length) (hwi : w ≤ i) : lawIndex (word.take i) s % s ^ w = lawIndex ((word.drop (i - w)).take w) s := by
  have e : word.take i = word.take (i - w) ++ (word.drop (i - w)).take w := by
    have h1 : i = (i - w) + w := by omega
    conv => lhs; rw [h1]
    rw [List.take_add]
  have hl : ((word.drop (i - w)).take w).length = w := by rw [List.length_take, List.length_drop]; omega
  have hb := idx_bound hs _ ((hw.drop (i - w)).take w)
  rw [hl] at hb
  rw [e, idx_app, hl, Int.add_comm, Int.add_mul_emod_self_right]
  exact Int.emod_eq_of_lt hb.1 hb.2
theorem idx_step {s L a c : Int} : (a % L * s + c) % L = (a * s + c) % L := by
  rw [Int.add_emod, Int.mul_emod, Int.emod_emod_of_dvd _ (Int.dvd_refl L), ← Int.mul_emod, ← Int.add_emod]

/-! ## draws -/
theorem drawStep_item {free : Bool} {x : List Int × Int × Int} {l : Int} (h : 0 < l) : ∃ d, (drawStep free x l).1 = x.1 ++ [d] ∧ 0 ≤ d ∧ d < l := by
  unfold drawStep
  split
  · exact ⟨_, rfl, Int.emod_nonneg _ (by omega), Int.emod_lt_of_pos _ h⟩
  · exact ⟨_, rfl, Int.emod_nonneg _ (by omega), Int.emod_lt_of_pos _ h⟩
theorem draws_take_lt (cell : Int) {limits : List Int} (h : ∀ l ∈ limits, 0 < l) : ∀ i, i ≤ limits.length → ∀ (j : Nat) (l : Int), j < i → limits[j]? = some l → ∃ d, (drawSt cell (limits.take i)).1[j]? = some d ∧ 0 ≤ d ∧ d < l
  | 0, _, j, _, hj, _ => absurd hj (Nat.not_lt_zero j)
  | i + 1, hi, j, l, hj, hl => by
    have hlt : i < limits.length := hi
    have e := drawSt_snoc cell (limits.take i) limits[i]
    rw [← take_succ_some (List.getElem?_eq_getElem hlt)] at e
    obtain ⟨d, h1, h2, h3⟩ := drawStep_item (free := drawFree cell) (x := drawSt cell (limits.take i)) (h limits[i] (List.getElem_mem hlt))
    have hz := drawSt_take_len cell limits i (Nat.le_of_lt hlt)
    rw [e, h1]
    by_cases hji : j < i
    · obtain ⟨d', g1, g2⟩ := draws_take_lt cell h i (Nat.le_of_lt hlt) j l hji hl
      exact ⟨d', by rw [List.getElem?_append_left (by omega)]; exact g1, g2⟩
    · have hji : j = i := by omega
      subst hji
      rw [List.getElem?_eq_getElem hlt] at hl
      cases hl
      exact ⟨d, by rw [List.getElem?_append_right (by omega), hz, Nat.sub_self]; rfl, h2, h3⟩
theorem draws_at (cell : Int) {limits : List Int} (h : ∀ l ∈ limits, 0 < l) {j : Nat} {l : Int} (hl : limits[j]? = some l) : ∃ d, (lawDraws cell limits)[j]? = some d ∧ 0 ≤ d ∧ d < l := by
  have hj : j < limits.length := (List.getElem?_eq_some_iff.mp hl).1
  have := draws_take_lt cell h limits.length (Nat.le_refl _) j l hj hl
  rw [List.take_length] at this
  exact this
theorem draws_rep (cell : Int) {n : Nat} {s : Int} (h : 0 < s) : InR s (lawDraws cell (List.replicate n s)) := by
  intro c hc
  obtain ⟨j, hj⟩ := List.mem_iff_getElem?.mp hc
  have hjl : j < n := by
    have := (List.getElem?_eq_some_iff.mp hj).1
    rw [draws_len, List.length_replicate] at this
    exact this
  obtain ⟨d, h1, h2⟩ := draws_at cell (limits := List.replicate n s) (fun l hl => by rw [(List.mem_replicate.mp hl).2]; exact h) (j := j) (l := s) (by rw [List.getElem?_replicate, if_pos hjl])
  rw [hj] at h1
  cases h1
  exact h2
theorem rep_flat {n : Nat} {x : D} : (List.replicate n [x]).flatten = List.replicate n x := by
  induction n with
  | zero => rfl
  | succ n ih => rw [List.replicate_succ, List.flatten_cons, ih]; rfl
theorem iL_rep {n : Nat} {x : Int} : iL (List.replicate n x) = List.replicate n (.int x) := by unfold iL; rw [List.map_replicate]

/-! ## digits -/
theorem digits_len (index size : Int) (w : Nat) : (lawDigits index size w).length = w := digSt_len index size w
theorem digits_in {size : Int} (h : 0 < size) (index : Int) : ∀ w, InR size (lawDigits index size w)
  | 0 => fun c hc => by cases hc
  | w + 1 => fun c hc => by
    have hc' : c ∈ (digSt index size w).2 % size :: (digSt index size w).1 := hc
    rcases List.mem_cons.mp hc' with rfl | hc'
    · exact ⟨Int.emod_nonneg _ (by omega), Int.emod_lt_of_pos _ h⟩
    · exact digits_in h index w c hc'

/-! ## slices -/
def cutI (xs : List Int) (lo hi : Option Int) : List Int := (xs.drop (HT.sIx xs.length 0 lo)).take (HT.sIx xs.length xs.length hi - HT.sIx xs.length 0 lo)
theorem iL_cut (xs : List Int) (lo hi : Option Int) : cutD (iL xs) lo hi = iL (cutI xs lo hi) := by
  unfold cutD cutI
  rw [iL_len]
  unfold iL
  rw [List.map_take, List.map_drop]
theorem cut_nat (xs : List Int) (a b : Nat) : cutI xs (some (a : Int)) (some (b : Int)) = (xs.drop a).take (b - a) := by
  unfold cutI
  rw [HT.sIx_nat, HT.sIx_nat]
  by_cases ha : a ≤ xs.length
  · rw [Nat.min_eq_left ha]
    by_cases hb : b ≤ xs.length
    · rw [Nat.min_eq_left hb]
    · rw [Nat.min_eq_right (show xs.length ≤ b by omega)]
      have h : (xs.drop a).length ≤ xs.length - a := by rw [List.length_drop]; exact Nat.le_refl _
      rw [List.take_of_length_le h, List.take_of_length_le (by rw [List.length_drop]; omega)]
  · rw [Nat.min_eq_right (show xs.length ≤ a by omega)]
    have h1 : xs.drop a = [] := List.drop_eq_nil_of_le (by omega)
    have h2 : xs.drop xs.length = [] := List.drop_eq_nil_of_le (Nat.le_refl _)
    rw [h1, h2, List.take_nil, List.take_nil]

/-! ## maps -/
def mapD (s o : Int) (w : Nat) (t : List Int) : D := .tuple [.int s, .int o, .int (w : Int), .list (iL t)]
structure Tb (s : Int) (w : Nat) (t : List Int) : Prop where
  hs : 2 ≤ s ∧ s ≤ 4
  hw : 1 ≤ w
  hl : (t.length : Int) = s ^ w
  hm : t.length ≤ 4096
  hc : InR s t
theorem pow_two_le (s : Int) (h : 2 ≤ s) : ∀ w : Nat, (w : Int) < s ^ w
  | 0 => by simp
  | w + 1 => by
    have ih := pow_two_le s h w
    rw [Int.pow_succ]
    have h1 : s ^ w * 2 ≤ s ^ w * s := Int.mul_le_mul_of_nonneg_left h (by omega)
    omega
theorem Tb.wle {s : Int} {w : Nat} {t : List Int} (h : Tb s w t) : w < 4096 := by
  have h1 := pow_two_le s h.hs.1 w
  have h2 := h.hl
  have h3 := h.hm
  omega
def lawApply (s : Int) (w : Nat) (t : List Int) (word : List Int) : List Int := (List.range (word.length + 1 - w)).map fun k => t.getD (lawIndex ((word.drop k).take w) s).toNat 0
theorem lawApply_len (s : Int) (w : Nat) (t word : List Int) : (lawApply s w t word).length = word.length + 1 - w := by unfold lawApply; rw [List.length_map, List.length_range]
/-- a window's number is one of the table's -/
theorem Tb.at {s : Int} {w : Nat} {t : List Int} (h : Tb s w t) {cs : List Int} (hc : InR s cs) (hl : cs.length = w) : ∃ i : Nat, lawIndex cs s = (i : Int) ∧ t[i]? = some (t.getD (lawIndex cs s).toNat 0) := by
  have hb := idx_bound (s := s) (by have := h.hs; omega) cs hc
  rw [hl, ← h.hl] at hb
  refine ⟨(lawIndex cs s).toNat, by omega, ?_⟩
  have hlt : (lawIndex cs s).toNat < t.length := by omega
  rw [List.getD_eq_getElem?_getD, List.getElem?_eq_getElem hlt]; rfl
theorem Tb.getD_in {s : Int} {w : Nat} {t : List Int} (h : Tb s w t) {i : Nat} (hi : i < t.length) : 0 ≤ t.getD i 0 ∧ t.getD i 0 < s := by
  rw [List.getD_eq_getElem?_getD, List.getElem?_eq_getElem hi]
  exact h.hc _ (List.getElem_mem hi)
theorem lawApply_in {s : Int} {w : Nat} {t : List Int} (h : Tb s w t) {word : List Int} (hw : InR s word) : InR s (lawApply s w t word) := by
  intro c hc
  unfold lawApply at hc
  obtain ⟨k, hk, rfl⟩ := List.mem_map.mp hc
  rw [List.mem_range] at hk
  obtain ⟨i, h1, h2⟩ := h.at ((hw.drop k).take w) (by rw [List.length_take, List.length_drop]; omega)
  exact h.hc _ (List.mem_of_getElem? h2)
theorem lawApply_at {s : Int} {w : Nat} {t word : List Int} {k : Nat} (hk : k < word.length + 1 - w) : (lawApply s w t word)[k]? = some (t.getD (lawIndex ((word.drop k).take w) s).toNat 0) := by
  unfold lawApply
  rw [List.getElem?_map, List.getElem?_range hk]; rfl

inductive R__law_apply : List Sl → Res → Prop
  | mk (s o : Int) (w : Nat) (t word : List Int) (h : Tb s w t) (hw : InR s word) (hz : word.length ≤ 90000) : R__law_apply [.fz (mapD s o w t), .fz (.list (iL word))] (.val (.ow (iL (lawApply s w t word))))
inductive R_apply_word : List Sl → Res → Prop
  | mk (s o : Int) (w : Nat) (t word : List Int) (h : Tb s w t) (hw : InR s word) (hz : word.length ≤ 90000) : R_apply_word [.fz (mapD s o w t), .fz (.list (iL word))] (.val (.ow (iL (lawApply s w t word))))
inductive R_new_cell : List Sl → Res → Prop
  | mk (s o : Int) (w : Nat) (t cs : List Int) (h : Tb s w t) (hc : InR s cs) (hl : cs.length = w) : R_new_cell [.fz (mapD s o w t), .fz (.list (iL cs))] (.val (.fz (.int (t.getD (lawIndex cs s).toNat 0))))

/-! ## the law's maps -/
def getI (l : List Int) (i : Nat) : Int := l.getD i 0
def lawTable (cell s : Int) (w : Nat) : List Int :=
  let n := (s ^ w).toNat
  let draws := lawDraws (cell / 8) (List.replicate n s)
  if cell % 8 < 3 then draws
  else if cell % 8 = 3 then List.replicate n (getI draws 0)
  else
    let fs := lawDraws (cell / 8) (List.replicate (w + 1) s)
    if cell % 8 = 4 then (List.range n).map fun (k : Nat) => (((List.range w).map fun (j : Nat) => getI fs j * getI (lawDigits (k : Int) s w) j).sum + getI fs w) % s
    else
      let ps := lawDraws (cell / 8) [(w : Int), (w : Int)]
      if cell % 8 = 5 then (List.range n).map fun (k : Nat) => getI draws (getI (lawDigits (k : Int) s w) (getI ps 0).toNat).toNat
      else (List.range n).map fun (k : Nat) => getI draws (lawIndex (((lawDigits (k : Int) s w).drop (min (getI ps 0) (getI ps 1)).toNat).take ((max (getI ps 0) (getI ps 1)).toNat + 1 - (min (getI ps 0) (getI ps 1)).toNat)) s).toNat
theorem getI_at {l : List Int} {i : Nat} (h : i < l.length) : l[i]? = some (getI l i) := by
  unfold getI
  rw [List.getD_eq_getElem?_getD, List.getElem?_eq_getElem h]; rfl
theorem getI_in {s : Int} {l : List Int} (hl : InR s l) {i : Nat} (h : i < l.length) : 0 ≤ getI l i ∧ getI l i < s := hl _ (List.mem_of_getElem? (getI_at h))
inductive R__law_table : List Sl → Res → Prop
  | mk (cell s : Int) (w : Nat) (hs : 2 ≤ s ∧ s ≤ 4) (hw : 1 ≤ w) (hm : s ^ w ≤ 4096) : R__law_table [.fz (.int cell), .fz (.int s), .fz (.int (w : Int))] (.val (.ow (iL (lawTable cell s w))))
end Ed

namespace Ed
open PySem PySem.Spec PyProof.Rows L2

theorem rangeMap_get {n : Nat} {f : Nat → Int} {i : Nat} {e : D} (h : (iL ((List.range n).map f))[i]? = some e) : i < n ∧ e = .int (f i) := by
  obtain ⟨k, hk, rfl⟩ := iL_get h
  rw [List.getElem?_map] at hk
  by_cases hi : i < n
  · rw [List.getElem?_range hi] at hk
    cases hk
    exact ⟨hi, rfl⟩
  · rw [List.getElem?_eq_none (by rw [List.length_range]; omega)] at hk
    cases hk
theorem rangeMap_len {n : Nat} {f : Nat → Int} : (iL ((List.range n).map f)).length = n := by rw [iL_len, List.length_map, List.length_range]
theorem inR_rangeMap {s : Int} {n : Nat} {f : Nat → Int} (h : ∀ k, k < n → 0 ≤ f k ∧ f k < s) : InR s ((List.range n).map f) := fun c hc => by
  obtain ⟨k, hk, rfl⟩ := List.mem_map.mp hc
  exact h k (List.mem_range.mp hk)
theorem pow_nat {s : Int} (h : 0 < s) (w : Nat) : ((s ^ w).toNat : Int) = s ^ w := Int.toNat_of_nonneg (Int.le_of_lt (pow_pos' h w))
theorem pow_mono {s : Int} (h : 1 ≤ s) {a b : Nat} (hab : a ≤ b) : s ^ a ≤ s ^ b := by
  obtain ⟨c, rfl⟩ := Nat.exists_eq_add_of_le hab
  rw [Int.pow_add]
  have h1 : s ^ a * 1 ≤ s ^ a * s ^ c := Int.mul_le_mul_of_nonneg_left (by have := pow_pos' (s := s) (by omega) c; omega) (Int.le_of_lt (pow_pos' (by omega) a))
  omega
theorem two_draws (cell : Int) {w : Nat} (hw : 1 ≤ w) : 0 ≤ getI (lawDraws cell [(w : Int), (w : Int)]) 0 ∧ getI (lawDraws cell [(w : Int), (w : Int)]) 0 < w ∧ 0 ≤ getI (lawDraws cell [(w : Int), (w : Int)]) 1 ∧ getI (lawDraws cell [(w : Int), (w : Int)]) 1 < w := by
  have h : ∀ l ∈ [(w : Int), (w : Int)], 0 < l := fun l hl => by
    have : l = (w : Int) := by simpa using hl
    omega
  obtain ⟨d, h1, h2, h3⟩ := draws_at cell h (j := 0) (l := (w : Int)) rfl
  obtain ⟨e, g1, g2, g3⟩ := draws_at cell h (j := 1) (l := (w : Int)) rfl
  have e0 : getI (lawDraws cell [(w : Int), (w : Int)]) 0 = d := by unfold getI; rw [List.getD_eq_getElem?_getD, h1]; rfl
  have e1 : getI (lawDraws cell [(w : Int), (w : Int)]) 1 = e := by unfold getI; rw [List.getD_eq_getElem?_getD, g1]; rfl
  rw [e0, e1]
  exact ⟨h2, h3, g2, g3⟩
theorem two_lim {w : Nat} (hw : 1 ≤ w) (hw' : w < 4096) : ∀ l ∈ [(w : Int), (w : Int)], 0 < l ∧ l < 1073741824 := fun l hl => by
  have : l = (w : Int) := by simpa using hl
  omega
theorem at0 {l : List Int} (h : 0 < l.length) : atI (iL l) (0 : Int) = some (.int (getI l 0)) := atI_of (i := 0) (iL_at (getI_at h))
theorem at1 {l : List Int} (h : 1 < l.length) : atI (iL l) (1 : Int) = some (.int (getI l 1)) := atI_of (i := 1) (iL_at (getI_at h))
theorem at2 {l : List Int} (h : 2 < l.length) : atI (iL l) (2 : Int) = some (.int (getI l 2)) := atI_of (i := 2) (iL_at (getI_at h))
theorem at3 {l : List Int} (h : 3 < l.length) : atI (iL l) (3 : Int) = some (.int (getI l 3)) := atI_of (i := 3) (iL_at (getI_at h))
theorem atN {l : List Int} {i : Int} (h0 : 0 ≤ i) (h : i < (l.length : Int)) : atI (iL l) i = some (.int (getI l i.toNat)) := by
  have := atI_of (iL_at (getI_at (l := l) (i := i.toNat) (by omega)))
  rw [Int.toNat_of_nonneg h0] at this
  exact this
/-- [x] * n -/
theorem ev_repI {K : PySem.W.Frag} {ρ : List Sl} {te te2 : TE} {x n : Int} (hx : EvI K te2 ρ x) (hn : EvI K te ρ n) (h0 : -1000000 ≤ n) (h1 : n ≤ 100000) : EvR K (tOp rRep (tLst (tCons te2 tNil)) te) ρ (.ow (iL (List.replicate n.toNat x))) := by
  have g := ev_rep (EvR.fr (ev_lst (ds := [.int x]) (ea_cons hx ea_nil) (by show 1 ≤ sizeLine; decide))) hn (by omega) (by omega) (by show 1 * n.toNat ≤ sizeLine; exact small100' (by omega))
  rw [rep_flat, ← iL_rep] at g
  exact g
section
variable {cell s : Int} {w : Nat}
/-- the places of a draw's window -/
theorem cut_digits_ok (hs : 2 ≤ s ∧ s ≤ 4) {a b : Int} (ha : 0 ≤ a) (hb : b < (w : Int)) (k : Int) :
    let cs := ((lawDigits k s w).drop a.toNat).take (b.toNat + 1 - a.toNat)
    InR s cs ∧ 0 ≤ lawIndex cs s ∧ lawIndex cs s < s ^ w := by
  intro cs
  have hin : InR s cs := ((digits_in (by omega) k w).drop _).take _
  have hb' := idx_bound (s := s) (by omega) cs hin
  have hl : cs.length ≤ w := by
    show (List.take _ (List.drop _ _)).length ≤ w
    rw [List.length_take, List.length_drop, digits_len]; omega
  exact ⟨hin, hb'.1, Int.lt_of_lt_of_le hb'.2 (pow_mono (by omega) hl)⟩
theorem table_tb (hs : 2 ≤ s ∧ s ≤ 4) (hw : 1 ≤ w) (hm : s ^ w ≤ 4096) : Tb s w (lawTable cell s w) := by
  have hp := pow_pos' (s := s) (by omega) w
  have hn := pow_nat (s := s) (by omega) w
  have hsw : s ≤ s ^ w := by
    have := pow_mono (s := s) (by omega) hw
    rw [show s ^ 1 = s from by rw [Int.pow_succ, Int.pow_zero, Int.one_mul]] at this
    exact this
  have dl : (lawDraws (cell / 8) (List.replicate (s ^ w).toNat s)).length = (s ^ w).toNat := by rw [draws_len, List.length_replicate]
  have di : InR s (lawDraws (cell / 8) (List.replicate (s ^ w).toNat s)) := draws_rep _ (by omega)
  have key : (lawTable cell s w).length = (s ^ w).toNat ∧ InR s (lawTable cell s w) := by
    unfold lawTable
    simp only
    split
    · exact ⟨dl, di⟩
    · split
      · refine ⟨List.length_replicate .., fun c hc => ?_⟩
        rw [(List.mem_replicate.mp hc).2]
        exact getI_in di (by rw [dl]; omega)
      · split
        · refine ⟨by rw [List.length_map, List.length_range], inR_rangeMap fun k _ => ⟨Int.emod_nonneg _ (by omega), Int.emod_lt_of_pos _ (by omega)⟩⟩
        · have hd := two_draws (cell / 8) hw
          split
          · refine ⟨by rw [List.length_map, List.length_range], inR_rangeMap fun k _ => getI_in di ?_⟩
            have := getI_in (digits_in (size := s) (by omega) (k : Int) w) (i := (getI (lawDraws (cell / 8) [(w : Int), (w : Int)]) 0).toNat) (by rw [digits_len]; omega)
            rw [dl]; omega
          · refine ⟨by rw [List.length_map, List.length_range], inR_rangeMap fun k _ => getI_in di ?_⟩
            have := (cut_digits_ok (w := w) hs (a := min (getI (lawDraws (cell / 8) [(w : Int), (w : Int)]) 0) (getI (lawDraws (cell / 8) [(w : Int), (w : Int)]) 1)) (b := max (getI (lawDraws (cell / 8) [(w : Int), (w : Int)]) 0) (getI (lawDraws (cell / 8) [(w : Int), (w : Int)]) 1)) (by omega) (by omega) (k : Int)).2
            rw [dl]; omega
  exact ⟨hs, hw, by rw [key.1]; exact hn, by rw [key.1]; omega, key.2⟩
end

/-! ## the law's map -/
/-- the width that is left -/
def shrinkW (s most : Int) : Nat → Nat → Nat
  | 0, w => w
  | n + 1, w => shrinkW s most n (if 1 < w ∧ most < s ^ w then w - 1 else w)
def stepW (s most : Int) (w : Nat) : Nat := if 1 < w ∧ most < s ^ w then w - 1 else w
def iterW (s most : Int) (w0 : Nat) : Nat → Nat
  | 0 => w0
  | n + 1 => stepW s most (iterW s most w0 n)
def mpS (cell : Int) : Int := 2 + getI (lawDraws cell [3, 6, 7, 201]) 0
def mpW (cell most : Int) : Nat := iterW (mpS cell) most (1 + (getI (lawDraws cell [3, 6, 7, 201]) 1).toNat) 6
def mpO (cell : Int) : Int := getI [0, -1, 1, 100, -100, getI (lawDraws cell [3, 6, 7, 201]) 3 - 100, getI (lawDraws cell [3, 6, 7, 201]) 3 - 100] (getI (lawDraws cell [3, 6, 7, 201]) 2).toNat
theorem four_draws (cell : Int) : (0 ≤ getI (lawDraws cell [3, 6, 7, 201]) 0 ∧ getI (lawDraws cell [3, 6, 7, 201]) 0 < 3) ∧ (0 ≤ getI (lawDraws cell [3, 6, 7, 201]) 1 ∧ getI (lawDraws cell [3, 6, 7, 201]) 1 < 6) ∧
    (0 ≤ getI (lawDraws cell [3, 6, 7, 201]) 2 ∧ getI (lawDraws cell [3, 6, 7, 201]) 2 < 7) ∧ (0 ≤ getI (lawDraws cell [3, 6, 7, 201]) 3 ∧ getI (lawDraws cell [3, 6, 7, 201]) 3 < 201) := by
  have h : ∀ l ∈ [(3 : Int), 6, 7, 201], 0 < l := by decide
  have one : ∀ (j : Nat) (l : Int), [(3 : Int), 6, 7, 201][j]? = some l → 0 ≤ getI (lawDraws cell [3, 6, 7, 201]) j ∧ getI (lawDraws cell [3, 6, 7, 201]) j < l := fun j l hl => by
    obtain ⟨d, h1, h2⟩ := draws_at cell h hl
    have e : getI (lawDraws cell [3, 6, 7, 201]) j = d := by unfold getI; rw [List.getD_eq_getElem?_getD, h1]; rfl
    rw [e]; exact h2
  exact ⟨one 0 3 rfl, one 1 6 rfl, one 2 7 rfl, one 3 201 rfl⟩
theorem stepW_pos {s most : Int} {w : Nat} (h : 1 ≤ w) : 1 ≤ stepW s most w := by unfold stepW; split <;> omega
theorem stepW_le {s most : Int} {w : Nat} : stepW s most w ≤ w := by unfold stepW; split <;> omega
theorem iterW_pos {s most : Int} {w : Nat} (h : 1 ≤ w) : ∀ n, 1 ≤ iterW s most w n
  | 0 => h
  | n + 1 => stepW_pos (iterW_pos h n)
theorem iterW_le {s most : Int} {w : Nat} : ∀ n, iterW s most w n ≤ w
  | 0 => Nat.le_refl _
  | n + 1 => Nat.le_trans stepW_le (iterW_le n)
/-- after enough turns the table is small -/
theorem iterW_small {s most : Int} (hs : s ≤ most) (hm1 : 1 ≤ most) {w : Nat} : ∀ n, s ^ (iterW s most w n) ≤ most ∨ iterW s most w n + n ≤ w
  | 0 => .inr (Nat.le_refl _)
  | n + 1 => by
    show s ^ (stepW s most (iterW s most w n)) ≤ most ∨ _
    rcases iterW_small hs hm1 (w := w) n with h | h
    · left
      have : stepW s most (iterW s most w n) = iterW s most w n := by unfold stepW; rw [if_neg (by omega)]
      rw [this]; exact h
    · by_cases hc : 1 < iterW s most w n ∧ most < s ^ (iterW s most w n)
      · right
        show stepW s most (iterW s most w n) + (n + 1) ≤ w
        unfold stepW
        rw [if_pos hc]; omega
      · left
        have e : stepW s most (iterW s most w n) = iterW s most w n := by unfold stepW; rw [if_neg hc]
        rw [e]
        by_cases h1 : 1 < iterW s most w n
        · have : ¬ most < s ^ (iterW s most w n) := fun z => hc ⟨h1, z⟩
          omega
        · have h01 : iterW s most w n = 0 ∨ iterW s most w n = 1 := by omega
          rcases h01 with h0 | h0
          · rw [h0, Int.pow_zero]
            exact hm1
          · rw [h0, Int.pow_succ, Int.pow_zero, Int.one_mul]; exact hs
theorem mpS_ok (cell : Int) : 2 ≤ mpS cell ∧ mpS cell ≤ 4 := by
  have := (four_draws cell).1
  unfold mpS; omega
theorem mpW_ok (cell : Int) {most : Int} (h : 4 ≤ most) : 1 ≤ mpW cell most ∧ mpW cell most ≤ 6 ∧ mpS cell ^ mpW cell most ≤ most := by
  have h1 := (four_draws cell).2.1
  have h2 := mpS_ok cell
  have p := iterW_pos (s := mpS cell) (most := most) (w := 1 + (getI (lawDraws cell [3, 6, 7, 201]) 1).toNat) (by omega) 6
  have l := iterW_le (s := mpS cell) (most := most) (w := 1 + (getI (lawDraws cell [3, 6, 7, 201]) 1).toNat) 6
  have z := iterW_small (s := mpS cell) (most := most) (by omega) (by omega) (w := 1 + (getI (lawDraws cell [3, 6, 7, 201]) 1).toNat) 6
  unfold mpW
  refine ⟨p, by omega, ?_⟩
  rcases z with z | z
  · exact z
  · omega
theorem getI_cases7 {P : Int → Prop} {a b c d e f g : Int} {i : Nat} (hi : i < 7) (ha : P a) (hb : P b) (hc : P c) (hd : P d) (he : P e) (hf : P f) (hg : P g) : P (getI [a, b, c, d, e, f, g] i) := by
  match i, hi with
  | 0, _ => exact ha
  | 1, _ => exact hb
  | 2, _ => exact hc
  | 3, _ => exact hd
  | 4, _ => exact he
  | 5, _ => exact hf
  | 6, _ => exact hg
theorem mpO_ok (cell : Int) : -100 ≤ mpO cell ∧ mpO cell ≤ 100 := by
  have h := four_draws cell
  unfold mpO
  exact getI_cases7 (P := fun x => -100 ≤ x ∧ x ≤ 100) (by omega) (by decide) (by decide) (by decide) (by decide) (by decide) (by omega) (by omega)
theorem map_tb (cell more : Int) {most : Int} (h : 4 ≤ most ∧ most ≤ 4096) : Tb (mpS cell) (mpW cell most) (lawTable more (mpS cell) (mpW cell most)) :=
  table_tb (mpS_ok cell) (mpW_ok cell h.1).1 (by have := (mpW_ok cell h.1).2.2; omega)
def lawMapD (cell more most : Int) : D := mapD (mpS cell) (mpO cell) (mpW cell most) (lawTable more (mpS cell) (mpW cell most))
inductive R__law_map : List Sl → Res → Prop
  | mk (cell more most : Int) (h : 4 ≤ most ∧ most ≤ 4096) : R__law_map [.fz (.int cell), .fz (.int more), .fz (.int most)] (.val (.fz (lawMapD cell more most)))
end Ed

namespace Ed
open PySem PySem.Spec PyProof.Rows L2

/-! ## data that == and repr take -/
structure Tx (k n : Nat) (d : D) : Prop where
  s : d.showable = true
  h : d.hasDict = false
  c : d.canLay0 = true
  p : d.depth ≤ k
  l : d.leavesShort 20 = true
  w : d.weight ≤ n
structure Txs (k n : Nat) (ds : List D) : Prop where
  s : PyData.showableAll ds = true
  h : PyData.hasDictAll ds = false
  c : PyData.canLayAll0 ds = true
  p : PyData.depthAll ds ≤ k
  l : PyData.leavesShortAll 20 ds = true
  w : PyData.weightAll ds ≤ n
theorem Tx.up {k n k' n' : Nat} {d : D} (t : Tx k n d) (h1 : k ≤ k') (h2 : n ≤ n') : Tx k' n' d := ⟨t.s, t.h, t.c, Nat.le_trans t.p h1, t.l, Nat.le_trans t.w h2⟩
theorem Txs.up {k n k' n' : Nat} {d : List D} (t : Txs k n d) (h1 : k ≤ k') (h2 : n ≤ n') : Txs k' n' d := ⟨t.s, t.h, t.c, Nat.le_trans t.p h1, t.l, Nat.le_trans t.w h2⟩
theorem Txs.nil {k : Nat} : Txs k 0 [] := ⟨rfl, rfl, rfl, Nat.zero_le _, rfl, Nat.le_refl _⟩
theorem Txs.cons {k a b : Nat} {d : D} {ds : List D} (t : Tx k a d) (ts : Txs k b ds) : Txs k (a + 1 + b) (d :: ds) := by
  refine ⟨?_, ?_, ?_, ?_, ?_, ?_⟩
  · simp only [PyData.showableAll, t.s, ts.s, Bool.and_self]
  · simp only [PyData.hasDictAll, t.h, ts.h, Bool.or_self]
  · simp only [PyData.canLayAll0, t.c, ts.c, Bool.and_self]
  · simp only [PyData.depthAll]; exact Nat.max_le.mpr ⟨t.p, ts.p⟩
  · simp only [PyData.leavesShortAll, t.l, ts.l, Bool.and_self]
  · simp only [PyData.weightAll]; have := t.w; have := ts.w; omega
theorem Tx.list {k n : Nat} {ds : List D} (t : Txs k n ds) : Tx (k + 1) n (.list ds) :=
  ⟨by simp only [PyData.showable]; exact t.s, by simp only [PyData.hasDict]; exact t.h, by simp only [PyData.canLay0]; exact t.c, by simp only [PyData.depth]; have := t.p; omega, by simp only [PyData.leavesShort]; exact t.l, by simp only [PyData.weight]; exact t.w⟩
theorem Tx.tup {k n : Nat} {ds : List D} (t : Txs k n ds) : Tx (k + 1) n (.tuple ds) :=
  ⟨by simp only [PyData.showable]; exact t.s, by simp only [PyData.hasDict]; exact t.h, by simp only [PyData.canLay0]; exact t.c, by simp only [PyData.depth]; have := t.p; omega, by simp only [PyData.leavesShort]; exact t.l, by simp only [PyData.weight]; exact t.w⟩
theorem Tx.none {k n : Nat} : Tx k n .none := ⟨rfl, by simp only [PyData.hasDict], by simp only [PyData.canLay0], by simp only [PyData.depth]; exact Nat.zero_le _, by simp only [PyData.leavesShort], by simp only [PyData.weight]; exact Nat.zero_le _⟩
theorem Tx.bool {k n : Nat} {b : Bool} : Tx k n (.bool b) := ⟨by simp only [PyData.showable], by simp only [PyData.hasDict], by simp only [PyData.canLay0], by simp only [PyData.depth]; exact Nat.zero_le _, by simp only [PyData.leavesShort], by simp only [PyData.weight]; exact Nat.zero_le _⟩
theorem log2_lt {i m : Nat} (h : i < 2 ^ m) (h0 : i ≠ 0) : i.log2 < m := (Nat.log2_lt h0).mpr h
theorem shown_small {i : Int} (h : i.natAbs < 10 ^ 19) : (PyData.shown (.int i)).length ≤ 20 := by
  have e := int_text_length_le10 (k := 19) (by decide) h
  show (Str.ofString (toString i)).length ≤ 20
  rw [PySem.ofString_length]; exact e
theorem Tx.int {k m : Nat} {i : Int} (h : i.natAbs < 2 ^ m) (hm : m ≤ 60) : Tx k m (.int i) := by
  have hb : i.natAbs < 2 ^ 60 := Nat.lt_of_lt_of_le h (Nat.pow_le_pow_right (by decide) hm)
  refine ⟨?_, by simp only [PyData.hasDict], by simp only [PyData.canLay0], by simp only [PyData.depth]; exact Nat.zero_le _, ?_, ?_⟩
  · simp only [PyData.showable, decide_eq_true_eq]
    by_cases h0 : i.natAbs = 0
    · rw [h0]; decide
    · exact Nat.lt_of_lt_of_le (log2_lt hb h0) (by decide)
  · simp only [PyData.leavesShort, decide_eq_true_eq]
    exact shown_small (Nat.lt_of_lt_of_le hb (by decide))
  · simp only [PyData.weight]
    split
    · exact Nat.zero_le _
    · rename_i hz
      have h0 : i.natAbs ≠ 0 := fun z => by
        have : i = 0 := Int.natAbs_eq_zero.mp z
        subst this
        exact hz rfl
      exact log2_lt h h0
theorem Txs.ints {k m : Nat} (hm : m ≤ 60) : ∀ {ns : List Int}, (∀ i ∈ ns, i.natAbs < 2 ^ m) → Txs k (ns.length * (m + 1)) (iL ns)
  | [], _ => Txs.nil.up (Nat.le_refl _) (Nat.zero_le _)
  | n :: r, h => by
    have h1 := Tx.int (k := k) (h n List.mem_cons_self) hm
    have h2 := Txs.ints (k := k) hm fun i hi => h i (List.mem_cons_of_mem _ hi)
    refine (Txs.cons h1 h2).up (Nat.le_refl _) ?_
    rw [List.length_cons, Nat.add_mul, Nat.one_mul]; omega
theorem Tx.shaped {k n : Nat} {d : D} (t : Tx k n d) (h : k ≤ 60) : SeqAt.shaped d = true := by
  unfold SeqAt.shaped
  rw [t.c, Bool.true_and, decide_eq_true_eq]
  exact Nat.le_trans (Nat.le_trans t.p h) (by decide)
theorem Tx.fits {k n : Nat} {d : D} (t : Tx k n d) (hn : n ≤ 524288) : d.shown.length ≤ sizeLine := by
  have h := PyData.shown_le 20 (by decide) d t.l
  have h2 : (20 + 2) * d.weight ≤ 22 * 524288 := Nat.mul_le_mul (by decide) (Nat.le_trans t.w hn)
  rw [sizeLine_eq]
  omega
section
variable {K : PySem.W.Frag} {ρ : List Sl} {ta tb : TE}
theorem rc_reprL {k n : Nat} {ds : List D} (t : Tx k n (.list ds)) (hk : k ≤ 60) (hn : n ≤ 524288) : RC K (rReprD K) [.fz (.list ds)] (.fz (.str (PyData.shown (.list ds)))) :=
  rc_repr (fun _ => nofun) t.s t.h (Nat.le_trans t.p hk) (t.fits hn) (.inl ⟨_, rfl⟩)
theorem rc_reprT {k n : Nat} {ds : List D} (t : Tx k n (.tuple ds)) (hk : k ≤ 60) (hn : n ≤ 524288) : RC K (rReprD K) [.fz (.tuple ds)] (.fz (.str (PyData.shown (.tuple ds)))) :=
  rc_repr (fun _ => nofun) t.s t.h (Nat.le_trans t.p hk) (t.fits hn) (.inr ⟨_, rfl⟩)
theorem ev_eqS {a b : Str} (ha : EvD K ta ρ (.str a)) (hb : EvD K tb ρ (.str b)) : EvD K (tOp rEq ta tb) ρ (.bool (decide (a = b))) :=
  ev_op ha hb fun x y F H fh hx hy Q q => by
    rw [hx.str_eq, hy.str_eq]
    refine ⟨rfl, ?_⟩
    have e : decide (V.str a = V.str b) = decide (a = b) := by
      by_cases h : a = b
      · subst h; simp
      · rw [decide_eq_false h, decide_eq_false fun z => h (V.str.inj z)]
    rw [e]
    exact q _ F H (.refl fh) (.bl _)
theorem ev_neS {a b : Str} (ha : EvD K ta ρ (.str a)) (hb : EvD K tb ρ (.str b)) : EvD K (tOp rNe ta tb) ρ (.bool (!decide (a = b))) :=
  ev_op ha hb fun x y F H fh hx hy Q q => by
    rw [hx.str_eq, hy.str_eq]
    refine ⟨rfl, ?_⟩
    have e : decide (V.str a = V.str b) = decide (a = b) := by
      by_cases h : a = b
      · subst h; simp
      · rw [decide_eq_false h, decide_eq_false fun z => h (V.str.inj z)]
    rw [e]
    exact q _ F H (.refl fh) (.bl _)
/-- what is equal: != says no, == says yes -/
theorem ev_neS_no {a : Str} (ha : EvD K ta ρ (.str a)) (hb : EvD K tb ρ (.str a)) : EvD K (tOp rNe ta tb) ρ (.bool false) := (ev_neS ha hb).is (by rw [decide_eq_true rfl]; rfl)
theorem ev_eqS_yes {a : Str} (ha : EvD K ta ρ (.str a)) (hb : EvD K tb ρ (.str a)) : EvD K (tOp rEq ta tb) ρ (.bool true) := (ev_eqS ha hb).is (by rw [decide_eq_true rfl])
theorem ev_neD_no {k n : Nat} {d : D} (ha : EvD K ta ρ d) (hb : EvD K tb ρ d) (t : Tx k n d) (hk : k ≤ 60) : EvD K (tOp (rNeD K) ta tb) ρ (.bool false) := (ev_neD ha hb (t.shaped hk) (t.shaped hk)).is (by rw [SeqAt.eqv_refl d t.c]; rfl)
theorem ev_eqD_yes {k n : Nat} {d : D} (ha : EvD K ta ρ d) (hb : EvD K tb ρ d) (t : Tx k n d) (hk : k ≤ 60) : EvD K (tOp (rEqD K) ta tb) ρ (.bool true) := (ev_eqD ha hb (t.shaped hk) (t.shaped hk)).is (by rw [SeqAt.eqv_refl d t.c])
theorem ev_neI_no {a : Int} (ha : EvI K ta ρ a) (hb : EvI K tb ρ a) : EvD K (tOp rNe ta tb) ρ (.bool false) := (ev_neI ha hb).is (by rw [decide_eq_true rfl]; rfl)
/-- isinstance(x, T), T a built-in class -/
def tyD : D → String
  | .none => "NoneType"
  | .bool _ => "bool"
  | .int _ => "int"
  | .str _ => "str"
  | .list _ => "list"
  | .tuple _ => "tuple"
  | .dict _ => "dict"
theorem ev_isi {d : D} {T : String} {b : Bool} (ha : EvD K ta ρ d) (hk : PySem.W.kitOne K (.type (tyD d)) (.type T) = some b) : EvD K (tCB (rIsi K) (tCons ta (tCons (tC (.ty T)) tNil))) ρ (.bool b) := fun F0 H0 F H σ c Q q =>
  ha F0 H0 F H σ c _ fun v F1 H1 e1 g => by
    have ty : TyX K H1 v (.type (tyD d)) := by
      have g' : Dv F1 v d := g
      cases g' with
      | non => exact .base .non
      | bl b => exact .base (.bl b)
      | int i => exact .base (.int i)
      | str x => exact .base (.str x)
      | lst h _ => exact .base (.lst (e1.fh _ _ h))
      | tup h _ => exact .base (.tup (e1.fh _ _ h))
    exact ⟨v, .ty T, _, _, b, rfl, .ty T, ty, hk, q _ F1 H1 e1 (.bl b)⟩
theorem mapTx {s o : Int} {w : Nat} {t : List Int} (h : Tb s w t) (ho : -1000 ≤ o ∧ o ≤ 1000) : Tx 2 (t.length * 4 + 40) (mapD s o w t) := by
  have hs := h.hs
  have hw := h.wle
  have t1 : Tx 1 3 (.int s) := Tx.int (m := 3) (by omega) (by decide)
  have t2 : Tx 1 10 (.int o) := Tx.int (m := 10) (by omega) (by decide)
  have t3 : Tx 1 12 (.int (w : Int)) := Tx.int (m := 12) (by omega) (by decide)
  have t4 : Tx 1 (t.length * 4) (.list (iL t)) := Tx.list (Txs.ints (m := 3) (by decide) fun i hi => by have := h.hc i hi; omega)
  exact (Tx.tup (Txs.cons t1 (Txs.cons t2 (Txs.cons t3 (Txs.cons t4 Txs.nil))))).up (Nat.le_refl _) (by omega)
theorem wordTx {s : Int} (hs : s ≤ 4) {word : List Int} (h : InR s word) : Tx 1 (word.length * 4) (.list (iL word)) := Tx.list (Txs.ints (m := 3) (by decide) fun i hi => by have := h i hi; omega)
end
end Ed
namespace Ed
open PySem PySem.Spec PyProof.Rows L2
/-- range(0, m, c), c a written step -/
theorem rgUp {j c : Int} (hc : 0 < c) (h1 : c < 1000) (h0 : 0 ≤ j) (hj : j < 2 ^ 40) : RgC 0 j c (Builtin.Range.rangeSize 0 j c).toNat := by
  have hn : 0 ≤ Builtin.Range.rangeSize 0 j c := by
    unfold Builtin.Range.rangeSize
    rw [if_pos hc]
    split
    · have := Int.ediv_nonneg (a := j - 0 - 1) (b := c) (by omega) (by omega)
      omega
    · exact Int.le_refl _
  have hu : Builtin.Range.rangeSize 0 j c ≤ j := by
    unfold Builtin.Range.rangeSize
    rw [if_pos hc]
    split
    · have := Int.ediv_le_self (a := j - 0 - 1) c (by omega)
      omega
    · exact h0
  refine ⟨by omega, by omega, ?_, (Int.toNat_of_nonneg hn).symm⟩
  unfold Builtin.Range.small
  rw [if_pos (show c > 0 from hc)]
  generalize Builtin.Range.rangeSize 0 j c = n at hn hu
  simp only [Builtin.Range.rangeFitsLong, Bool.and_eq_true, Bool.or_eq_true, decide_eq_true_eq, beq_iff_eq, if_true]
  refine ⟨⟨⟨⟨?_, ?_⟩, ?_⟩, ?_⟩, Or.inr ?_⟩ <;> omega
/-- a test of the shape: a or b or c, all false -/
theorem et_or_no {K : PySem.W.Frag} {ρ : List Sl} {t u : TT} (h1 : EvT K t ρ false) (h2 : EvT K u ρ false) : EvT K (tOr t u) ρ false := et_or h1 fun _ => h2
theorem et_yes_not {K : PySem.W.Frag} {ρ : List Sl} {t : TT} (h1 : EvT K t ρ true) : EvT K (tNot t) ρ false := et_not h1
/-- an if that is not taken -/
theorem run_skip {K : PySem.W.Frag} {E : XK} {ρ : List Sl} {t : TT} {tu tz : TS} {P : Post} (h : EvT K t ρ false) (k : Run K E tz ρ P) : Run K E (tSeq (tIfS t tu tNext) tz) ρ P := run_when h (fun z => nomatch z) fun _ => k
theorem s_skip {K : PySem.W.Frag} {E : XK} {ρ : List Sl} {t : TT} {tu : TS} {P : Post} (h : EvT K t ρ false) (k : P.nx ρ) : Run K E (tIfS t tu tNext) ρ P := s_when h (fun z => nomatch z) fun _ => k
end Ed
namespace Ed
open PySem PySem.Spec PyProof.Rows L2
inductive R_law : List Sl → Res → Prop
  | mk (ns : List Int) (h : ns.length ≤ 63) : R_law [.sq (ns.map V.int)] (.val (.fz (.bool true)))
end Ed
namespace Ed
open PySem PySem.Spec PyProof.Rows L2
theorem kit_ll {K : PySem.W.Frag} : PySem.W.kitOne K (.type "list") (.type "list") = some true := kit_ty (by decide +kernel)
theorem kit_tt {K : PySem.W.Frag} : PySem.W.kitOne K (.type "tuple") (.type "tuple") = some true := kit_ty (by decide +kernel)
theorem kit_ib {K : PySem.W.Frag} : PySem.W.kitOne K (.type "int") (.type "bool") = some false := kit_ty (by decide +kernel)
theorem kit_bb {K : PySem.W.Frag} : PySem.W.kitOne K (.type "bool") (.type "bool") = some true := kit_ty (by decide +kernel)
end Ed

namespace Ed
open PySem PySem.Spec PyProof.Rows L2

/-! ## a range object that a name holds -/
def iRngV (te : TE) : TI := fun σ H R => te σ H fun v H1 => ∃ (a : Addr) (lo hi : Int), v = .ref a ∧ H1 a = some (.rng lo hi) ∧ (-(2 ^ 62) ≤ lo ∧ lo < 2 ^ 62 ∧ -(2 ^ 62) ≤ hi ∧ hi < 2 ^ 62) ∧ R (Itr lo (hi - lo).toNat) H1
theorem pi_rngV {X : Cx} {tg e : Expr} {te : TE} (he : PE X e te) : PI X tg e (iRngV te) := by
  refine ⟨fun pins s σ H R I h => thn (he.run pins s σ H _ I h) ?_⟩
  rintro v s1 ⟨x, H1, I1, r1, a, lo, hi, rfl, ha, ⟨b1, b2, b3, b4⟩, q⟩
  cases r1
  obtain ⟨t, u, v, ho⟩ := (show ObjOk X.prog X.w H1 s1.heap a (.rng lo hi) from I1.hok a _ ha)
  refine wpAny_pyIter_range ho (small_one b1 b2 b3 b4) ?_
  have hn : Builtin.Range.rangeSize lo hi 1 = (((hi - lo).toNat : Nat) : Int) := by rw [rangeSize_one]; split <;> omega
  rw [hn]
  refine ⟨s1.heap.objs.size, [s1.heap.objs.size], _, _, H1, rfl, I1.kept (t' := s1.toks) fun b o z => Heap.get?_push_of_some _ z, turn_range _ lo (hi - lo).toNat, ?_, ?_, q⟩
  · show IsRangeIter _ _ (lo + ((0 : Nat) : Int) * 1) ((((hi - lo).toNat : Nat) : Int) - ((0 : Nat) : Int)) 1
    have z1 : lo + ((0 : Nat) : Int) * 1 = lo := by omega
    have z2 : (((hi - lo).toNat : Nat) : Int) - ((0 : Nat) : Int) = (((hi - lo).toNat : Nat) : Int) := by omega
    rw [z1, z2]
    exact Heap.get?_push_size _ rfl
  · intro b hb
    rw [List.mem_singleton.mp hb]
    exact I1.fpOk (Nat.le_refl _) (I1.hok.fresh (Nat.le_refl _))
abbrev rRng2 : List V → Hp → VK → Prop := fun vs H Q => ∃ i j, vs = [V.int i, V.int j] ∧ ∀ p, H p = none → Q (.ref p) (upd H p (.rng i j))
section
variable {K : PySem.W.Frag} {ρ : List Sl} {ta tb tc te : TE} {E : XK} {P : Post} {tu : TS}
theorem rc_rng2 {i j : Int} : RC K rRng2 [.fz (.int i), .fz (.int j)] (.rg i j) := fun vs F H fh g Q q => by
  obtain ⟨v, w, rfl, h1, h2⟩ := g.two
  rw [h1.int_eq, h2.int_eq]
  exact ⟨i, j, rfl, fun p hp => q _ _ _ (.new fh hp) ⟨p, rfl, upd_same⟩⟩
theorem ev_varG {i : Nat} {lo hi : Int} (h : ρ[i]? = some (.rg lo hi)) : EvR K (tVar i) ρ (.rg lo hi) := fun F0 H0 F H σ c Q q => by
  obtain ⟨v, h1, h2⟩ := c.get h nofun
  exact ⟨v, h1, q v F H (.refl c.ex.fh) h2⟩
theorem ev_lcG {j : Nat} {lo m : Int} {es : List Ed.D} (h : EvR K te ρ (.rg lo m)) (hm : -(2 ^ 62) ≤ lo ∧ lo < 2 ^ 62 ∧ -(2 ^ 62) ≤ m ∧ m < 2 ^ 62) (hl : es.length = (m - lo).toNat) (hz : es.length ≤ sizeLine)
    (he : ∀ (i : Nat) (e : Ed.D), i < (m - lo).toNat → es[i]? = some e → EvD K tb (ρ.set j (.fz (.int (lo + (i : Int))))) e) : EvR K (tLc (iRngV te) (gName j) tYes tb [j]) ρ (.ow es) := fun F0 H0 F H σ c Q q =>
  h F0 H0 F H σ c _ fun v F1 H1 e1 g => by
    obtain ⟨a, rfl, ha⟩ := g
    have c1 := c.up e1
    refine ⟨a, lo, m, rfl, e1.fh _ _ ha, hm, fun Dl hD => lc_range (lo := lo) (n := (m - lo).toNat) (Cw K F0 H0 F1 H1 σ ρ es Dl) (cw_start c1 hD) (fun i H' hi w => ⟨wipe1, ?_⟩) (fun H' w => ?_)⟩
    · have hlt : i < es.length := by rw [hl]; exact hi
      refine iteT (B := Cw K F0 H0 F1 H1 σ ρ es Dl (i + 1) H') ?_
      exact cw_turn c1 w hz (List.getElem?_eq_getElem hlt) (fun F' f => .int _) (he i _ hi (List.getElem?_eq_getElem hlt))
    · obtain ⟨F', ex, ok⟩ := cw_end w hl
      exact q _ F' H' (e1.trans ex) (ok.base e1.hh)

theorem no_none {o : HO} {p : Prop} (z : (none : Option HO) = some o) : p := nomatch z
/-! ## values that are wholly new -/
theorem EvR.frP {d : Ed.D} (h : EvR K te ρ (.pv d)) : EvD K te ρ d := fun F0 H0 F H σ c Q q => h F0 H0 F H σ c Q fun v F' H' e g => by
  obtain ⟨P, h1, h2⟩ := g
  refine q _ (un F' P) H' ⟨e.hh, e.ff.trans (un_left F' P), fun a o z => ?_, fun a o z => ?_⟩ (h2.up (un_right fun a o z => (h1 a o z).1.2))
  · rcases un_cases z with z | ⟨_, z⟩
    · exact e.fh a o z
    · exact (h1 a o z).2
  · rcases un_cases z with z | ⟨_, z⟩
    · exact e.nw a o z
    · exact .inr (h1 a o z).1.1
/-- a new list of atoms is wholly new -/
theorem EvR.toP {ds : List Ed.D} (h : EvR K te ρ (.ow ds)) (ha : ds.all atom = true) : EvR K te ρ (.pv (.list ds)) := fun F0 H0 F H σ c Q q => h F0 H0 F H σ c Q fun v F' H' e g => by
  obtain ⟨p, xs, rfl, g1, g2, g3⟩ := g
  refine q _ F' H' e ⟨fun a => if a = p then some (.lst xs) else none, fun a o z => ?_, .lst (if_pos rfl) (g3.atoms ha)⟩
  by_cases y : a = p
  · have z2 : some (HO.lst xs) = some o := (if_pos y).symm.trans z
    rw [y, ← z2]
    exact ⟨g1, g2⟩
  · have z2 : none = some o := (if_neg y).symm.trans z
    cases z2
theorem EvR.atomP {d : Ed.D} (h : EvD K te ρ d) (ha : atom d = true) : EvR K te ρ (.pv d) := fun F0 H0 F H σ c Q q => h F0 H0 F H σ c Q fun v F' H' e g =>
  q v F' H' e ⟨fun _ => none, (fun a o z => no_none z), Dv.atom g ha⟩
/-- values moved out: what the slots own counts as new -/
def EvM (K : PySem.W.Frag) (te : TE) (ρ : List Sl) (d : Ed.D) : Prop := ∀ F0 H0 F H σ, Cfg K F0 H0 F H σ ρ → ∀ Q : VK, (∀ v F' H', Ext F H F' H' → VOk K H0 F' H' v (.pv d) → Q v H') → te σ H Q
def EvMA (K : PySem.W.Frag) (ta : TA) (ρ : List Sl) (ds : List Ed.D) : Prop :=
  ∀ F0 H0 F H σ, Cfg K F0 H0 F H σ ρ → ∀ Q : List V → Hp → Prop, (∀ vs F' H', Ext F H F' H' → (∃ P : Hp, (∀ a o, P a = some o → (H0 a = none ∧ F' a = none) ∧ H' a = some o) ∧ DvAll P vs ds) → Q vs H') → ta σ H Q
theorem EvR.mv {d : Ed.D} (h : EvR K te ρ (.pv d)) : EvM K te ρ d := fun F0 H0 F H σ c Q q => h F0 H0 F H σ c Q fun v F' H' e g => q v F' H' e (g.base c.ex.hh)
theorem em_var {i : Nat} {ds : List Ed.D} (h : ρ[i]? = some (.ow ds)) (ha : ds.all atom = true) : EvM K (tVar i) ρ (.list ds) := fun F0 H0 F H σ c Q q => by
  obtain ⟨v, h1, p, xs, rfl, g1, g2, g3⟩ := c.get h nofun
  refine ⟨_, h1, q _ F H (.refl c.ex.fh) ⟨fun a => if a = p then some (.lst xs) else none, fun a o z => ?_, .lst (if_pos rfl) (g3.atoms ha)⟩⟩
  by_cases y : a = p
  · have z2 : some (HO.lst xs) = some o := (if_pos y).symm.trans z
    rw [y, ← z2]
    exact ⟨g1, g2⟩
  · have z2 : none = some o := (if_neg y).symm.trans z
    cases z2
theorem em_nil : EvMA K tNil ρ [] := fun F0 H0 F H σ c Q q => q [] F H (.refl c.ex.fh) ⟨fun _ => none, (fun a o z => no_none z), .nil⟩
theorem em_cons {tr : TA} {d : Ed.D} {ds : List Ed.D} (h : EvM K te ρ d) (hr : EvMA K tr ρ ds) : EvMA K (tCons te tr) ρ (d :: ds) := fun F0 H0 F H σ c Q q =>
  h F0 H0 F H σ c _ fun v F1 H1 e1 g => hr F0 H0 F1 H1 σ (c.up e1) _ fun vs F2 H2 e2 g2 => by
    obtain ⟨P1, p1, d1⟩ := g
    obtain ⟨P2, p2, d2⟩ := g2
    have w1 : ∀ a o, P1 a = some o → (H0 a = none ∧ F2 a = none) ∧ H2 a = some o := fun a o z => ⟨⟨(p1 a o z).1.1, e2.none (p1 a o z).1.2 (p1 a o z).2⟩, e2.hh _ _ (p1 a o z).2⟩
    have ex2 : Ex P2 (un P1 P2) := fun a o z => by
      unfold un
      cases y : P1 a with
      | none => exact z
      | some u =>
        have h1 := (w1 a u y).2
        have h2 := (p2 a o z).2
        rw [h1] at h2
        exact h2
    refine q _ F2 H2 (e1.trans e2) ⟨un P1 P2, fun a o z => ?_, .cons (d1.up (un_left P1 P2)) (d2.up ex2)⟩
    rcases un_cases z with z | ⟨_, z⟩
    · exact w1 a o z
    · exact p2 a o z
theorem em_tup {t : TA} {ds : List Ed.D} (h : EvMA K t ρ ds) (hz : ds.length ≤ sizeLine) : EvM K (tTup t) ρ (.tuple ds) := fun F0 H0 F H σ c Q q =>
  h F0 H0 F H σ c _ fun vs F1 H1 e1 g => by
    obtain ⟨P, h1, h2⟩ := g
    refine ⟨by rw [h2.len]; exact hz, fun p hp => q _ F1 _ (e1.trans (.own e1.fh hp)) ⟨upd P p (.tup vs), fun a o z => ?_, .tup upd_same (h2.up (.new ?_))⟩⟩
    · by_cases y : a = p
      · rw [y, upd_same] at z
        rw [y, upd_same]
        exact ⟨⟨c.ex.hh.back (e1.hh.back hp), e1.fh.back hp⟩, z⟩
      · rw [upd_ne y] at z
        rw [upd_ne y]
        exact h1 a o z
    · cases y : P p with
      | none => rfl
      | some u => rw [(h1 p u y).2] at hp; cases hp
theorem s_retM {d : Ed.D} (h : EvM K te ρ d) (k : P.rt (.pv d)) : Run K E (tRet te) ρ P := fun F0 H0 F H σ D c _ rt _ _ _ =>
  h F0 H0 F H σ c _ fun v F' H' e g => rt v _ F' H' (c.ex.trans e) g k
/-- the slots own nothing that a new value could take: as EvM, from the start of the expression -/
theorem run_frzP {i : Nat} {d : Ed.D} (hi : ρ[i]? = some (.pv d)) (h : Run K E tu (ρ.set i (.fz d)) P) : Run K E tu ρ P := fun F0 H0 F H σ D c n r b t x => by
  obtain ⟨F1, f1, f2, c1⟩ := c.frzP hi
  exact h F0 H0 F1 H σ D c1 (fun _ _ _ _ f' => n _ _ _ _ (f1.trans f')) r (fun _ _ _ _ f' => b _ _ _ _ (f1.trans f')) (fun _ _ _ _ f' => t _ _ _ _ (f1.trans f')) x
theorem et_passP {t : TT} {i : Nat} {d : Ed.D} {b : Bool} (hi : ρ[i]? = some (.pv d)) (h : EvT K t (ρ.set i (.fz d)) b) : EvT K t ρ b := fun F0 H0 F H σ c Q q => by
  obtain ⟨F1, f1, f2, c1⟩ := c.frzP hi
  exact h F0 H0 F1 H σ c1 Q fun F' H' e => q F H' ⟨e.hh, .refl F, c.ex.fh.trans e.hh, fun a o z => .inl ⟨o, z⟩⟩
/-- x[j].append(e), x a tuple that is wholly new; x is forgotten -/
theorem s_appP {i : Nat} {ds es : List Ed.D} {j : Int} {d : Ed.D} (hi : ρ[i]? = some (.pv (.tuple ds))) (hj : atI ds j = some (.list es)) (h : EvD K te ρ d) (hz : es.length < sizeLine) (k : P.nx (ρ.set i .no)) :
    Run K E (tDrop (tBM K "list" rAppend (tOp (rIxT K) (tVar i) (tC (.int j))) (tCons te tNil))) ρ P := fun F0 H0 F H σ D c n _ _ _ _ => by
  obtain ⟨O, o1, o2, o3⟩ := c.sl
  obtain ⟨v, g1, Pv, g2, g3⟩ := o3 i _ hi
  have g3' : Dv Pv v (.tuple ds) := g3
  cases g3' with
  | tup ht ha =>
    rename_i a xs
    obtain ⟨w, w1, w2⟩ := atI_dv ha hj
    cases w2 with
    | lst hl hx =>
      rename_i p ys
      refine ⟨_, g1, ⟨a, xs, j, .ref p, rfl, rfl, .inl (.inl (g2 a _ ht).2), w1, .inl ⟨rfl, ys, .inl (.inl (g2 p _ hl).2)⟩, h F0 H0 F H σ c _ fun y F' H' e gy => ?_⟩⟩
      refine ⟨p, ys, y, rfl, rfl, e.hh _ _ (g2 p _ hl).2, by rw [hx.len]; exact hz, ?_⟩
      refine n F' _ σ _ e.ff ((c.up e).writeG (s := .pv (.tuple ds)) (s' := .no) hi fun G hG => ?_) k
      obtain ⟨v2, k1, Pv2, k2, k3⟩ := hG
      rw [g1] at k1
      cases k1
      have k3' : Dv Pv2 (.ref a) (.tuple ds) := k3
      cases k3' with
      | tup ht2 ha2 =>
        rename_i xs2
        obtain ⟨w', w1', w2'⟩ := atI_dv ha2 hj
        cases w2' with
        | lst hl2 hx2 =>
          rename_i p2 ys2
          have e1 := (k2 a _ ht2).2
          have e2 := e.hh _ _ (g2 a _ ht).2
          rw [e1] at e2
          cases e2
          rw [w1] at w1'
          cases w1'
          exact ⟨(k2 p _ hl2).1, trivial⟩
end
end Ed

namespace Ed
open PySem PySem.Spec PyProof.Rows L2

/-! ## round rows -/
def rowAt (row : List Int) (i : Int) : Int := getI row (i % (row.length : Int)).toNat
def winAt (row : List Int) (w : Nat) (i : Int) : List Int := (List.range w).map fun (j : Nat) => rowAt row (i + (j : Int))
def roundImage (s o : Int) (w : Nat) (t row : List Int) : List Int := (List.range row.length).map fun (k : Nat) => getI t (lawIndex (winAt row w ((k : Int) + o)) s).toNat
theorem rowAt_idx {row : List Int} (h : 0 < row.length) (i : Int) : 0 ≤ i % (row.length : Int) ∧ (i % (row.length : Int)).toNat < row.length := by
  have h1 := Int.emod_nonneg i (b := (row.length : Int)) (by omega)
  have h2 := Int.emod_lt_of_pos i (b := (row.length : Int)) (by omega)
  omega
theorem rowAt_in {s : Int} {row : List Int} (h : 0 < row.length) (hr : InR s row) (i : Int) : 0 ≤ rowAt row i ∧ rowAt row i < s := getI_in hr (rowAt_idx h i).2
theorem winAt_in {s : Int} {row : List Int} (h : 0 < row.length) (hr : InR s row) (w : Nat) (i : Int) : InR s (winAt row w i) := inR_rangeMap fun k _ => rowAt_in h hr _
theorem winAt_len (row : List Int) (w : Nat) (i : Int) : (winAt row w i).length = w := by unfold winAt; rw [List.length_map, List.length_range]
theorem rowAt_mod (row : List Int) (i : Int) : rowAt row (i % (row.length : Int)) = rowAt row i := by unfold rowAt; rw [Int.emod_emod_of_dvd _ (Int.dvd_refl _)]
theorem rowAt_congr {row : List Int} {i j : Int} (h : i % (row.length : Int) = j % (row.length : Int)) : rowAt row i = rowAt row j := by unfold rowAt; rw [h]
theorem winAt_congr {row : List Int} {w : Nat} {i j : Int} (h : i % (row.length : Int) = j % (row.length : Int)) : winAt row w i = winAt row w j := by
  unfold winAt
  refine List.map_congr_left fun k _ => rowAt_congr ?_
  rw [Int.add_emod, h, ← Int.add_emod]
theorem roundImage_len (s o : Int) (w : Nat) (t row : List Int) : (roundImage s o w t row).length = row.length := by unfold roundImage; rw [List.length_map, List.length_range]
theorem roundImage_get {s o : Int} {w : Nat} {t row : List Int} {k : Nat} (hk : k < row.length) : (roundImage s o w t row)[k]? = some (getI t (lawIndex (winAt row w ((k : Int) + o)) s).toNat) := by
  unfold roundImage
  rw [List.getElem?_map, List.getElem?_range hk]; rfl
theorem getI_of {l : List Int} {i : Nat} {x : Int} (h : l[i]? = some x) : getI l i = x := by unfold getI; rw [List.getD_eq_getElem?_getD, h]; rfl
/-- the image's cell at any place -/
theorem image_at {s o : Int} {w : Nat} {t row : List Int} (h : 0 < row.length) (i : Int) : rowAt (roundImage s o w t row) i = getI t (lawIndex (winAt row w (i + o)) s).toNat := by
  have hi := rowAt_idx h i
  unfold rowAt
  rw [roundImage_len, getI_of (roundImage_get hi.2), Int.toNat_of_nonneg hi.1]
  rw [winAt_congr (i := i % (row.length : Int) + o) (j := i + o)]
  rw [Int.add_emod, Int.emod_emod_of_dvd _ (Int.dvd_refl _), ← Int.add_emod]
theorem roundImage_in {s o : Int} {w : Nat} {t row : List Int} (tb : Tb s w t) (h : 0 < row.length) (hr : InR s row) : InR s (roundImage s o w t row) := by
  unfold roundImage
  refine inR_rangeMap fun k _ => ?_
  obtain ⟨i, h1, h2⟩ := tb.at (winAt_in h hr w ((k : Int) + o)) (winAt_len ..)
  rw [h1, Int.toNat_natCast]
  exact getI_in tb.hc (List.getElem?_eq_some_iff.mp h2).1
theorem range_cut {m k w : Nat} {f : Nat → Int} (h : k + w ≤ m) : (((List.range m).map f).drop k).take w = (List.range w).map fun j => f (k + j) := by
  refine List.ext_getElem? fun i => ?_
  by_cases hi : i < w
  · rw [List.getElem?_take_of_lt hi, List.getElem?_drop, List.getElem?_map, List.getElem?_range (by omega), List.getElem?_map, List.getElem?_range hi]; rfl
  · rw [List.getElem?_eq_none (by rw [List.length_take]; omega), List.getElem?_eq_none (by rw [List.length_map, List.length_range]; omega)]
/-- the word that round_image hands on, and what becomes of it -/
def roundWord (o : Int) (w : Nat) (row : List Int) : List Int := (List.range (row.length + w - 1)).map fun (i : Nat) => rowAt row (o + (i : Int))
theorem roundWord_apply {s o : Int} {w : Nat} {t row : List Int} (hw : 1 ≤ w) : lawApply s w t (roundWord o w row) = roundImage s o w t row := by
  unfold lawApply roundImage
  have hl : (roundWord o w row).length = row.length + w - 1 := by unfold roundWord; rw [List.length_map, List.length_range]
  rw [hl, show row.length + w - 1 + 1 - w = row.length by omega]
  refine List.map_congr_left fun k hk => ?_
  rw [List.mem_range] at hk
  have e : ((roundWord o w row).drop k).take w = winAt row w ((k : Int) + o) := by
    unfold roundWord winAt
    rw [range_cut (by omega)]
    refine List.map_congr_left fun j _ => ?_
    rw [show o + ((k + j : Nat) : Int) = (k : Int) + o + (j : Int) by omega]
  rw [e]; rfl
inductive R_round_cell : List Sl → Res → Prop
  | mk (row : List Int) (place : Int) (h : 0 < row.length) : R_round_cell [.fz (.list (iL row)), .fz (.int place)] (.val (.fz (.int (rowAt row place))))
inductive R_round_image : List Sl → Res → Prop
  | mk (s o : Int) (w : Nat) (t row : List Int) (tb : Tb s w t) (ho : -1000 ≤ o ∧ o ≤ 1000) (h : 0 < row.length) (hr : InR s row) (hz : row.length ≤ 10000) : R_round_image [.fz (mapD s o w t), .fz (.list (iL row))] (.val (.ow (iL (roundImage s o w t row))))
inductive R__law_round_image : List Sl → Res → Prop
  | mk (s o : Int) (w : Nat) (t row : List Int) (tb : Tb s w t) (ho : -1000 ≤ o ∧ o ≤ 1000) (h : 0 < row.length) (hr : InR s row) (hz : row.length ≤ 10000) : R__law_round_image [.fz (mapD s o w t), .fz (.list (iL row))] (.val (.ow (iL (roundImage s o w t row))))

/-! ## periods -/
def isPer (row : List Int) (p : Nat) : Bool := decide (row.length % p = 0) && decide ((List.replicate (row.length / p) (row.take p)).flatten = row)
def findP (row : List Int) : Nat → Nat → Nat
  | 0, p => p
  | f + 1, p => if isPer row p = true then p else findP row f (p + 1)
def simpleP (row : List Int) : Nat := findP row row.length 1
def roundSimple (row : List Int) : List Int := row.take (simpleP row)
theorem isPer_self {row : List Int} (h : 0 < row.length) : isPer row row.length = true := by
  unfold isPer
  rw [Nat.mod_self, Nat.div_self h, List.take_length]
  simp
structure LeastP (row : List Int) (p : Nat) : Prop where
  pos : 1 ≤ p
  is : isPer row p = true
  no : ∀ q, 1 ≤ q → q < p → ¬ isPer row q = true
theorem LeastP.uniq {row : List Int} {p q : Nat} (h : LeastP row p) (g : LeastP row q) : p = q := by
  rcases Nat.lt_trichotomy p q with z | z | z
  · exact absurd h.is (g.no p h.pos z)
  · exact z
  · exact absurd g.is (h.no q g.pos z)
theorem findP_least {row : List Int} (h : 0 < row.length) : ∀ f p, 1 ≤ p → p + f = row.length + 1 → (∀ q, 1 ≤ q → q < p → ¬ isPer row q = true) → LeastP row (findP row f p)
  | 0, p, h1, h2, h3 => absurd (isPer_self h) (h3 row.length h (by omega))
  | f + 1, p, h1, h2, h3 => by
    unfold findP
    by_cases hp : isPer row p = true
    · rw [if_pos hp]; exact ⟨h1, hp, h3⟩
    · rw [if_neg hp]
      refine findP_least h f (p + 1) (by omega) (by omega) fun q q1 q2 => ?_
      by_cases hq : q = p
      · rw [hq]; exact hp
      · exact h3 q q1 (by omega)
theorem simpleP_least {row : List Int} (h : 0 < row.length) : LeastP row (simpleP row) := findP_least h row.length 1 (Nat.le_refl _) (by omega) fun q q1 q2 => by omega
theorem simpleP_le {row : List Int} (h : 0 < row.length) : simpleP row ≤ row.length := by
  have l := simpleP_least h
  rcases Nat.lt_or_ge row.length (simpleP row) with z | z
  · exact absurd (isPer_self h) (l.no row.length h z)
  · exact z
theorem flat_get {u : List Int} (hu : 0 < u.length) : ∀ (m i : Nat), i < m * u.length → (List.replicate m u).flatten[i]? = u[i % u.length]?
  | 0, i, h => by rw [Nat.zero_mul] at h; omega
  | m + 1, i, h => by
    rw [List.replicate_succ, List.flatten_cons]
    by_cases hi : i < u.length
    · rw [List.getElem?_append_left hi, Nat.mod_eq_of_lt hi]
    · rw [List.getElem?_append_right (by omega), flat_get hu m (i - u.length) (by rw [Nat.add_mul, Nat.one_mul] at h; omega)]
      have : i % u.length = (i - u.length) % u.length := Nat.mod_eq_sub_mod (by omega)
      rw [this]
theorem flat_len {u : List Int} : ∀ m, (List.replicate m u).flatten.length = m * u.length
  | 0 => by simp
  | m + 1 => by rw [List.replicate_succ, List.flatten_cons, List.length_append, flat_len m, Nat.add_mul, Nat.one_mul, Nat.add_comm]
def fAt (row : List Int) (i : Nat) : Int := getI row (i % row.length)
def Per (f : Nat → Int) (p : Nat) : Prop := ∀ i, f (i + p) = f i
theorem Per.mul {f : Nat → Int} {p : Nat} (h : Per f p) : ∀ k, Per f (k * p)
  | 0 => fun i => by rw [Nat.zero_mul]; rfl
  | k + 1 => fun i => by rw [Nat.add_mul, Nat.one_mul, ← Nat.add_assoc, h, Per.mul h k]
theorem Per.mod {f : Nat → Int} {p q : Nat} (h : Per f p) (g : Per f q) : Per f (q % p) := fun i => by
  have e : i + q = i + q % p + q / p * p := by rw [Nat.add_assoc, Nat.mul_comm, Nat.mod_add_div]
  rw [← g i, e, h.mul (q / p)]
theorem Per.gcd {f : Nat → Int} : ∀ (p q : Nat), Per f p → Per f q → Per f (Nat.gcd p q) := by
  intro p q
  induction p, q using Nat.gcd.induction with
  | H0 n => intro _ h; rw [Nat.gcd_zero_left]; exact h
  | H1 m n hm ih => intro h g; rw [Nat.gcd_rec]; exact ih (h.mod g) h
theorem isPer_iff {row : List Int} (h : 0 < row.length) {p : Nat} (hp : 1 ≤ p) : isPer row p = true ↔ p ∣ row.length ∧ Per (fAt row) p := by
  unfold isPer
  rw [Bool.and_eq_true, decide_eq_true_eq, decide_eq_true_eq]
  constructor
  · rintro ⟨h1, h2⟩
    have hd : p ∣ row.length := Nat.dvd_of_mod_eq_zero h1
    refine ⟨hd, fun i => ?_⟩
    have hle := Nat.le_of_dvd h hd
    have hu : (row.take p).length = p := by rw [List.length_take]; omega
    have key : ∀ j, j < row.length → row[j]? = (row.take p)[j % p]? := fun j hj => by
      have := flat_get (u := row.take p) (by omega) (row.length / p) j (by rw [hu, Nat.div_mul_cancel hd]; exact hj)
      rw [h2, hu] at this
      exact this
    unfold fAt getI
    rw [List.getD_eq_getElem?_getD, List.getD_eq_getElem?_getD, key _ (Nat.mod_lt _ h), key _ (Nat.mod_lt _ h), Nat.mod_mod_of_dvd _ hd, Nat.mod_mod_of_dvd _ hd, Nat.add_mod_right]
  · rintro ⟨hd, hper⟩
    refine ⟨Nat.mod_eq_zero_of_dvd hd, ?_⟩
    have hle := Nat.le_of_dvd h hd
    have hu : (row.take p).length = p := by rw [List.length_take]; omega
    refine List.ext_getElem? fun i => ?_
    by_cases hi : i < row.length
    · rw [flat_get (u := row.take p) (by omega) _ i (by rw [hu, Nat.div_mul_cancel hd]; exact hi), hu, List.getElem?_take_of_lt (Nat.mod_lt _ hp)]
      have e1 : fAt row i = fAt row (i % p) := by
        have := hper.mul (i / p) (i % p)
        rw [Nat.mul_comm, Nat.mod_add_div] at this
        exact this
      have hm := Nat.mod_lt i hp
      unfold fAt getI at e1
      rw [Nat.mod_eq_of_lt hi, Nat.mod_eq_of_lt (show i % p < row.length by omega), List.getD_eq_getElem?_getD, List.getD_eq_getElem?_getD, List.getElem?_eq_getElem hi, List.getElem?_eq_getElem (show i % p < row.length by omega)] at e1
      rw [List.getElem?_eq_getElem hi, List.getElem?_eq_getElem (show i % p < row.length by omega)]
      exact congrArg some e1.symm
    · rw [List.getElem?_eq_none (by rw [flat_len, hu, Nat.div_mul_cancel hd]; omega), List.getElem?_eq_none (by omega)]
def rep (m : Nat) (row : List Int) : List Int := (List.replicate m row).flatten
theorem rep_len (m : Nat) (row : List Int) : (rep m row).length = m * row.length := flat_len m
theorem fAt_rep {row : List Int} (h : 0 < row.length) {m : Nat} (hm : 1 ≤ m) : fAt (rep m row) = fAt row := by
  funext i
  have hl := rep_len m row
  have hpos : 0 < m * row.length := Nat.mul_pos hm h
  unfold fAt getI
  rw [List.getD_eq_getElem?_getD, List.getD_eq_getElem?_getD, hl]
  unfold rep
  rw [flat_get h m _ (Nat.mod_lt _ hpos), Nat.mod_mod_of_dvd _ (Nat.dvd_mul_left _ _)]
theorem simple_rep {row : List Int} (h : 0 < row.length) {m : Nat} (hm : 1 ≤ m) : simpleP (rep m row) = simpleP row := by
  have hl := rep_len m row
  have hpos : 0 < (rep m row).length := by rw [hl]; exact Nat.mul_pos hm h
  have lr := simpleP_least h
  have ll := simpleP_least hpos
  generalize simpleP row = p at lr
  generalize simpleP (rep m row) = q at ll
  obtain ⟨r1, r2⟩ := (isPer_iff h lr.pos).mp lr.is
  obtain ⟨l1, l2⟩ := (isPer_iff hpos ll.pos).mp ll.is
  rw [fAt_rep h hm] at l2
  rw [hl] at l1
  have pn : Per (fAt row) row.length := fun i => by unfold fAt; rw [Nat.add_mod_right]
  -- q divides the row's length
  have g1 := Per.gcd q row.length l2 pn
  have gpos : 1 ≤ Nat.gcd q row.length := Nat.gcd_pos_of_pos_right _ h
  have gle : Nat.gcd q row.length ≤ q := Nat.le_of_dvd ll.pos (Nat.gcd_dvd_left ..)
  have gq : Nat.gcd q row.length = q := by
    rcases Nat.lt_or_ge (Nat.gcd q row.length) q with z | z
    · refine absurd ?_ (ll.no _ gpos z)
      rw [isPer_iff hpos gpos, fAt_rep h hm, hl]
      exact ⟨Nat.dvd_trans (Nat.gcd_dvd_right ..) (Nat.dvd_mul_left ..), g1⟩
    · omega
  have qn : q ∣ row.length := gq ▸ Nat.gcd_dvd_right q row.length
  refine LeastP.uniq (row := row) ⟨ll.pos, (isPer_iff h ll.pos).mpr ⟨qn, l2⟩, fun r h1 h2 => ?_⟩ lr
  intro hr
  obtain ⟨x1, x2⟩ := (isPer_iff h h1).mp hr
  refine ll.no r h1 h2 ?_
  rw [isPer_iff hpos h1, fAt_rep h hm, hl]
  exact ⟨Nat.dvd_trans x1 (Nat.dvd_mul_left ..), x2⟩
theorem roundSimple_rep {row : List Int} (h : 0 < row.length) {m : Nat} (hm : 1 ≤ m) : roundSimple (rep m row) = roundSimple row := by
  unfold roundSimple
  rw [simple_rep h hm]
  obtain ⟨k, rfl⟩ : ∃ k, m = k + 1 := ⟨m - 1, by omega⟩
  unfold rep
  rw [List.replicate_succ, List.flatten_cons, List.take_append_of_le_length (simpleP_le h)]
theorem roundSimple_pos {row : List Int} (h : 0 < row.length) : 0 < (roundSimple row).length := by
  unfold roundSimple
  have := simpleP_least h
  have := simpleP_le h
  rw [List.length_take]
  have := (simpleP_least h).pos
  omega
theorem roundSimple_idem {row : List Int} (h : 0 < row.length) : roundSimple (roundSimple row) = roundSimple row := by
  have l := simpleP_least h
  obtain ⟨hd, _⟩ := (isPer_iff h l.pos).mp l.is
  have hp := roundSimple_pos h
  have e : row = rep (row.length / simpleP row) (roundSimple row) := by
    have := l.is
    unfold isPer at this
    rw [Bool.and_eq_true, decide_eq_true_eq, decide_eq_true_eq] at this
    exact this.2.symm
  have hm : 1 ≤ row.length / simpleP row := Nat.div_pos (Nat.le_of_dvd h hd) l.pos
  have := roundSimple_rep hp hm
  rw [← e] at this
  exact this.symm
theorem rowAt_rep {row : List Int} (h : 0 < row.length) {m : Nat} (hm : 1 ≤ m) (i : Int) : rowAt (rep m row) i = rowAt row i := by
  have hl := rep_len m row
  have hpos : 0 < m * row.length := Nat.mul_pos hm h
  have e := congrFun (fAt_rep h hm) (i % ((rep m row).length : Int)).toNat
  have hi := rowAt_idx (row := rep m row) (by rw [hl]; exact hpos) i
  unfold fAt at e
  unfold rowAt
  rw [Nat.mod_eq_of_lt hi.2] at e
  rw [e]
  congr 1
  have h1 : (((i % ((rep m row).length : Int)).toNat : Nat) : Int) = i % ((rep m row).length : Int) := Int.toNat_of_nonneg hi.1
  have h2 : ((i % ((rep m row).length : Int)).toNat % row.length : Nat) = (i % (row.length : Int)).toNat := by
    have h3 : (((i % ((rep m row).length : Int)).toNat % row.length : Nat) : Int) = i % (row.length : Int) := by
      rw [Int.natCast_emod, h1, hl, Int.emod_emod_of_dvd _ (by rw [Int.natCast_mul]; exact Int.dvd_mul_left ..)]
    omega
  exact h2
theorem winAt_rep {row : List Int} (h : 0 < row.length) {m : Nat} (hm : 1 ≤ m) (w : Nat) (i : Int) : winAt (rep m row) w i = winAt row w i := by
  unfold winAt
  exact List.map_congr_left fun j _ => rowAt_rep h hm _
theorem image_rep {s o : Int} {w : Nat} {t row : List Int} (h : 0 < row.length) {m : Nat} (hm : 1 ≤ m) : roundImage s o w t (rep m row) = rep m (roundImage s o w t row) := by
  refine List.ext_getElem? fun k => ?_
  have hl := rep_len m row
  by_cases hk : k < m * row.length
  · rw [roundImage_get (by rw [hl]; exact hk), winAt_rep h hm]
    unfold rep
    rw [flat_get (by rw [roundImage_len]; exact h) m k (by rw [roundImage_len]; exact hk), roundImage_len, roundImage_get (Nat.mod_lt _ h)]
    congr 4
    refine winAt_congr ?_
    rw [Int.natCast_emod, Int.emod_add_emod]
  · rw [List.getElem?_eq_none (by rw [roundImage_len, hl]; omega), List.getElem?_eq_none (by rw [rep_len, roundImage_len]; omega)]
theorem rep_in {s : Int} {row : List Int} (h : InR s row) (m : Nat) : InR s (rep m row) := fun c hc => by
  unfold rep at hc
  obtain ⟨l, h1, h2⟩ := List.mem_flatten.mp hc
  rw [(List.mem_replicate.mp h1).2] at h2
  exact h c h2
theorem iL_flat (m : Nat) (row : List Int) : (List.replicate m (iL row)).flatten = iL (rep m row) := by
  unfold rep
  induction m with
  | zero => rfl
  | succ m ih => rw [List.replicate_succ, List.flatten_cons, ih, List.replicate_succ, List.flatten_cons, iL_app]
inductive R_round_simple : List Sl → Res → Prop
  | mk (s : Int) (row : List Int) (hs : s ≤ 4) (h : 0 < row.length) (hr : InR s row) (hz : row.length ≤ 10000) : R_round_simple [.fz (.list (iL row))] (.val (.ow (iL (roundSimple row))))
inductive R__law_round_simple : List Sl → Res → Prop
  | mk (s : Int) (row : List Int) (hs : s ≤ 4) (h : 0 < row.length) (hr : InR s row) (hz : row.length ≤ 10000) : R__law_round_simple [.fz (.list (iL row))] (.val (.ow (iL (roundSimple row))))
/-- == of lists of ints -/
theorem eqv_iL : ∀ a b : List Int, PyData.eqv (.list (iL a)) (.list (iL b)) = decide (a = b) := by
  have key : ∀ a b : List Int, PyData.eqvAll (iL a) (iL b) = decide (a = b) := by
    intro a
    induction a with
    | nil => intro b; cases b <;> rfl
    | cons x r ih =>
      intro b
      cases b with
      | nil => rfl
      | cons y q =>
        show PyData.eqvAll (.int x :: iL r) (.int y :: iL q) = _
        rw [PyData.eqvAll, ih q]
        have e : PyData.eqv (.int x) (.int y) = (x == y) := by rw [PyData.eqv]
        rw [e]
        by_cases hx : x = y
        · subst hx; simp
        · simp [hx]
  intro a b
  rw [PyData.eqv]
  exact key a b
end Ed
namespace Ed
open PySem PySem.Spec PyProof.Rows L2
theorem cut_to (xs : List Int) (b : Nat) : cutI xs none (some (b : Int)) = xs.take b := by
  unfold cutI
  rw [HT.sIx_nat]
  show (xs.drop 0).take (min b xs.length - 0) = xs.take b
  rw [List.drop_zero, Nat.sub_zero]
  by_cases h : b ≤ xs.length
  · rw [Nat.min_eq_left h]
  · rw [Nat.min_eq_right (show xs.length ≤ b by omega), List.take_length, List.take_of_length_le (by omega)]
end Ed

namespace Ed
open PySem PySem.Spec PyProof.Rows L2

/-! ## spread rows -/
def spreadD (b st : Int) (cells : List Int) : D := .tuple [.int b, .int st, .list (iL cells)]
def spCell (b st : Int) (cells : List Int) (i : Int) : Int := if st ≤ i ∧ i < st + (cells.length : Int) then getI cells (i - st).toNat else b
def itN (f : Nat → Nat) : Nat → Nat → Nat
  | 0, x => x
  | n + 1, x => itN f n (f x)
theorem itN_add (f : Nat → Nat) : ∀ m n x, itN f (m + n) x = itN f n (itN f m x)
  | 0, n, x => by rw [Nat.zero_add]; rfl
  | m + 1, n, x => by rw [show m + 1 + n = (m + n) + 1 by omega]; exact itN_add f m n (f x)
theorem itN_snoc (f : Nat → Nat) (n x : Nat) : itN f (n + 1) x = f (itN f n x) := itN_add f n 1 x
theorem itN_fix {f : Nat → Nat} {x : Nat} (h : f x = x) : ∀ n, itN f n x = x
  | 0 => rfl
  | n + 1 => by show itN f n (f x) = x; rw [h]; exact itN_fix h n
def stepF (b : Int) (cells : List Int) (x : Nat) : Nat := if x < cells.length ∧ getI cells x = b then x + 1 else x
def stepL (b : Int) (cells : List Int) (f x : Nat) : Nat := if f < x ∧ getI cells (x - 1) = b then x - 1 else x
def spF (b : Int) (cells : List Int) : Nat := itN (stepF b cells) cells.length 0
def spL (b : Int) (cells : List Int) : Nat := itN (stepL b cells (spF b cells)) cells.length cells.length
def spBody (b : Int) (cells : List Int) : List Int := (cells.drop (spF b cells)).take (spL b cells - spF b cells)
def spSt (b st : Int) (cells : List Int) : Int := if spF b cells = spL b cells then 0 else st + (spF b cells : Int)
def spSimple (b st : Int) (cells : List Int) : D := spreadD b (spSt b st cells) (spBody b cells)
section
variable {b : Int} {cells : List Int}
theorem itF_inv : ∀ n, itN (stepF b cells) n 0 ≤ n ∧ itN (stepF b cells) n 0 ≤ cells.length ∧ (∀ i, i < itN (stepF b cells) n 0 → getI cells i = b) ∧ (itN (stepF b cells) n 0 < n → stepF b cells (itN (stepF b cells) n 0) = itN (stepF b cells) n 0)
  | 0 => ⟨Nat.le_refl _, Nat.zero_le _, fun i h => by have h : i < 0 := h; omega, fun h => by have h : 0 < 0 := h; omega⟩
  | n + 1 => by
    obtain ⟨h1, h2, h3, h4⟩ := itF_inv n
    rw [itN_snoc]
    generalize itN (stepF b cells) n 0 = x at h1 h2 h3 h4
    by_cases hc : x < cells.length ∧ getI cells x = b
    · have e : stepF b cells x = x + 1 := by unfold stepF; rw [if_pos hc]
      have hx : x = n := by
        rcases Nat.lt_or_ge x n with z | z
        · have := h4 z; omega
        · omega
      rw [e]
      refine ⟨by omega, by omega, fun i hi => ?_, fun z => by omega⟩
      by_cases hi2 : i < x
      · exact h3 i hi2
      · have : i = x := by omega
        rw [this]; exact hc.2
    · have e : stepF b cells x = x := by unfold stepF; rw [if_neg hc]
      rw [e]
      exact ⟨by omega, h2, h3, fun _ => e⟩
theorem spF_le : spF b cells ≤ cells.length := (itF_inv cells.length).2.1
theorem spF_fix : stepF b cells (spF b cells) = spF b cells := by
  have h := itF_inv (b := b) (cells := cells) cells.length
  rcases Nat.lt_or_ge (itN (stepF b cells) cells.length 0) cells.length with z | z
  · exact h.2.2.2 z
  · show (if spF b cells < cells.length ∧ getI cells (spF b cells) = b then spF b cells + 1 else spF b cells) = spF b cells
    have z : cells.length ≤ spF b cells := z
    rw [if_neg (by omega)]
theorem spF_b {i : Nat} (h : i < spF b cells) : getI cells i = b := (itF_inv cells.length).2.2.1 i h
/-- the while loop's end -/
theorem spF_uniq {x : Nat} (h : itN (stepF b cells) x 0 = x) (hx : x ≤ cells.length) (hf : stepF b cells x = x) : x = spF b cells := by
  unfold spF
  have e : cells.length = x + (cells.length - x) := by omega
  rw [e, itN_add, h, itN_fix hf]
theorem itL_inv {f : Nat} (hf : f ≤ cells.length) : ∀ n, cells.length ≤ itN (stepL b cells f) n cells.length + n ∧ f ≤ itN (stepL b cells f) n cells.length ∧ itN (stepL b cells f) n cells.length ≤ cells.length ∧ (∀ i, itN (stepL b cells f) n cells.length ≤ i → i < cells.length → getI cells i = b) ∧
    (cells.length < itN (stepL b cells f) n cells.length + n → stepL b cells f (itN (stepL b cells f) n cells.length) = itN (stepL b cells f) n cells.length)
  | 0 => ⟨Nat.le_refl _, hf, Nat.le_refl _, fun i h1 h2 => by have h1 : cells.length ≤ i := h1; omega, fun h => by have h : cells.length < cells.length + 0 := h; omega⟩
  | n + 1 => by
    obtain ⟨h1, h2, h3, h4, h5⟩ := itL_inv hf n
    rw [itN_snoc]
    generalize itN (stepL b cells f) n cells.length = x at h1 h2 h3 h4 h5
    by_cases hc : f < x ∧ getI cells (x - 1) = b
    · have e : stepL b cells f x = x - 1 := by unfold stepL; rw [if_pos hc]
      have hx : x + n = cells.length := by
        rcases Nat.lt_or_ge cells.length (x + n) with z | z
        · have := h5 z; omega
        · omega
      rw [e]
      refine ⟨by omega, by omega, by omega, fun i hi hi2 => ?_, fun z => by omega⟩
      by_cases hi3 : x ≤ i
      · exact h4 i hi3 hi2
      · have : i = x - 1 := by omega
        rw [this]; exact hc.2
    · have e : stepL b cells f x = x := by unfold stepL; rw [if_neg hc]
      rw [e]
      exact ⟨by omega, h2, h3, h4, fun _ => e⟩
theorem spL_ok : spF b cells ≤ spL b cells ∧ spL b cells ≤ cells.length := by
  have h := itL_inv (b := b) (cells := cells) (spF_le (b := b)) cells.length
  exact ⟨h.2.1, h.2.2.1⟩
theorem spL_b {i : Nat} (h : spL b cells ≤ i) (h2 : i < cells.length) : getI cells i = b := (itL_inv (spF_le (b := b)) cells.length).2.2.2.1 i h h2
theorem spL_fix : stepL b cells (spF b cells) (spL b cells) = spL b cells := by
  have h := itL_inv (b := b) (cells := cells) (spF_le (b := b)) cells.length
  rcases Nat.lt_or_ge cells.length (itN (stepL b cells (spF b cells)) cells.length cells.length + cells.length) with z | z
  · exact h.2.2.2.2 z
  · have z : spL b cells + cells.length ≤ cells.length := z
    show (if spF b cells < spL b cells ∧ getI cells (spL b cells - 1) = b then spL b cells - 1 else spL b cells) = spL b cells
    rw [if_neg (by omega)]
theorem spL_uniq {x n : Nat} (hn : n ≤ cells.length) (h : itN (stepL b cells (spF b cells)) n cells.length = x) (hf : stepL b cells (spF b cells) x = x) : x = spL b cells := by
  unfold spL
  have e : cells.length = n + (cells.length - n) := by omega
  have e2 : itN (stepL b cells (spF b cells)) cells.length cells.length = itN (stepL b cells (spF b cells)) (n + (cells.length - n)) cells.length := by rw [← e]
  rw [e2, itN_add, h, itN_fix hf]
theorem spBody_len : (spBody b cells).length = spL b cells - spF b cells := by
  unfold spBody
  have := spL_ok (b := b) (cells := cells)
  rw [List.length_take, List.length_drop]; omega
theorem spBody_get {i : Nat} (h : i < spL b cells - spF b cells) : getI (spBody b cells) i = getI cells (spF b cells + i) := by
  unfold spBody getI
  rw [List.getD_eq_getElem?_getD, List.getD_eq_getElem?_getD, List.getElem?_take_of_lt h, List.getElem?_drop]
/-- the two ends are none of the background -/
theorem spBody_ends (h : spF b cells < spL b cells) : getI (spBody b cells) 0 ≠ b ∧ getI (spBody b cells) (spL b cells - spF b cells - 1) ≠ b := by
  have hl := spL_ok (b := b) (cells := cells)
  have f1 := spF_fix (b := b) (cells := cells)
  have f2 := spL_fix (b := b) (cells := cells)
  refine ⟨fun z => ?_, fun z => ?_⟩
  · rw [spBody_get (by omega), Nat.add_zero] at z
    unfold stepF at f1
    rw [if_pos ⟨by omega, z⟩] at f1
    omega
  · rw [spBody_get (by omega)] at z
    unfold stepL at f2
    rw [if_pos ⟨h, by rw [show spL b cells - 1 = spF b cells + (spL b cells - spF b cells - 1) by omega]; exact z⟩] at f2
    omega
theorem spCell_simple (st i : Int) : spCell b (spSt b st cells) (spBody b cells) i = spCell b st cells i := by
  have hl := spL_ok (b := b) (cells := cells)
  unfold spCell
  rw [spBody_len]
  unfold spSt
  by_cases he : spF b cells = spL b cells
  · rw [if_pos he, if_neg (by omega)]
    by_cases hi : st ≤ i ∧ i < st + (cells.length : Int)
    · rw [if_pos hi]
      by_cases h2 : (i - st).toNat < spF b cells
      · exact (spF_b h2).symm
      · exact (spL_b (by omega) (by omega)).symm
    · rw [if_neg hi]
  · rw [if_neg he]
    by_cases hi : st + (spF b cells : Int) ≤ i ∧ i < st + (spF b cells : Int) + ((spL b cells - spF b cells : Nat) : Int)
    · rw [if_pos hi, if_pos (by omega), spBody_get (by omega)]
      congr 1
      omega
    · rw [if_neg hi]
      by_cases hi2 : st ≤ i ∧ i < st + (cells.length : Int)
      · rw [if_pos hi2]
        by_cases h2 : (i - st).toNat < spF b cells
        · exact (spF_b h2).symm
        · exact (spL_b (by omega) (by omega)).symm
      · rw [if_neg hi2]
end
structure Simp (b st : Int) (cells : List Int) : Prop where
  ok : (cells = [] ∧ st = 0) ∨ (0 < cells.length ∧ getI cells 0 ≠ b ∧ getI cells (cells.length - 1) ≠ b)
theorem simp_of (b st : Int) (cells : List Int) : Simp b (spSt b st cells) (spBody b cells) := by
  have hl := spL_ok (b := b) (cells := cells)
  by_cases he : spF b cells = spL b cells
  · refine ⟨.inl ⟨List.eq_nil_of_length_eq_zero (by rw [spBody_len]; omega), ?_⟩⟩
    unfold spSt; rw [if_pos he]
  · have h := spBody_ends (b := b) (cells := cells) (by omega)
    refine ⟨.inr ⟨by rw [spBody_len]; omega, h.1, by rw [spBody_len]; exact h.2⟩⟩
/-- there is one simple form -/
theorem Simp.uniq {b st st' : Int} {cs ds : List Int} (h : Simp b st cs) (g : Simp b st' ds) (e : ∀ i, spCell b st cs i = spCell b st' ds i) : st = st' ∧ cs = ds := by
  have inside : ∀ {st : Int} {cs : List Int} {j : Nat}, j < cs.length → spCell b st cs (st + (j : Int)) = getI cs j := fun {st cs j} hj => by
    unfold spCell
    rw [if_pos (by omega)]
    congr 1; omega
  have outside : ∀ {st : Int} {cs : List Int} {i : Int}, spCell b st cs i ≠ b → st ≤ i ∧ i < st + (cs.length : Int) := fun {st cs i} hi => by
    rcases Decidable.em (st ≤ i ∧ i < st + (cs.length : Int)) with z | z
    · exact z
    · unfold spCell at hi
      rw [if_neg z] at hi
      exact absurd rfl hi
  rcases h.ok with ⟨rfl, rfl⟩ | ⟨h0, h1, h2⟩
  · rcases g.ok with ⟨rfl, rfl⟩ | ⟨g0, g1, g2⟩
    · exact ⟨rfl, rfl⟩
    · exfalso
      have := e (st' + ((0 : Nat) : Int))
      rw [inside g0] at this
      have z : spCell b 0 [] (st' + ((0 : Nat) : Int)) = b := by unfold spCell; rw [if_neg (by simp only [List.length_nil]; omega)]
      rw [z] at this
      exact g1 this.symm
  · rcases g.ok with ⟨rfl, rfl⟩ | ⟨g0, g1, g2⟩
    · exfalso
      have := e (st + ((0 : Nat) : Int))
      rw [inside h0] at this
      have z : spCell b 0 [] (st + ((0 : Nat) : Int)) = b := by unfold spCell; rw [if_neg (by simp only [List.length_nil]; omega)]
      rw [z] at this
      exact h1 this
    · have a1 := outside (st := st') (cs := ds) (i := st + ((0 : Nat) : Int)) (by rw [← e, inside h0]; exact h1)
      have a2 := outside (st := st) (cs := cs) (i := st' + ((0 : Nat) : Int)) (by rw [e, inside g0]; exact g1)
      have a3 := outside (st := st') (cs := ds) (i := st + ((cs.length - 1 : Nat) : Int)) (by rw [← e, inside (by omega)]; exact h2)
      have a4 := outside (st := st) (cs := cs) (i := st' + ((ds.length - 1 : Nat) : Int)) (by rw [e, inside (by omega)]; exact g2)
      have es : st = st' := by omega
      have el : cs.length = ds.length := by omega
      subst es
      refine ⟨rfl, List.ext_getElem? fun j => ?_⟩
      by_cases hj : j < cs.length
      · have := e (st + (j : Int))
        rw [inside hj, inside (by omega)] at this
        rw [getI_at hj, getI_at (show j < ds.length by omega), this]
      · rw [List.getElem?_eq_none (by omega), List.getElem?_eq_none (by omega)]
theorem spSimple_congr {b st st' : Int} {cs ds : List Int} (e : ∀ i, spCell b st cs i = spCell b st' ds i) : spSimple b st cs = spSimple b st' ds := by
  have h := Simp.uniq (simp_of b st cs) (simp_of b st' ds) fun i => by rw [spCell_simple, spCell_simple]; exact e i
  unfold spSimple
  rw [h.1, h.2]
theorem spSimple_idem (b st : Int) (cells : List Int) : spSimple b (spSt b st cells) (spBody b cells) = spSimple b st cells := spSimple_congr fun i => spCell_simple st i

/-! ## images of spread rows -/
def swin (b st : Int) (cells : List Int) (w : Nat) (i : Int) : List Int := (List.range w).map fun (j : Nat) => spCell b st cells (i + (j : Int))
def padW (b : Int) (w : Nat) (cells : List Int) : List Int := List.replicate (w - 1) b ++ cells ++ List.replicate (w - 1) b
def spImgCells (s : Int) (w : Nat) (t : List Int) (b : Int) (cells : List Int) : List Int := lawApply s w t (padW b w cells)
def spNew (s : Int) (w : Nat) (t : List Int) (b : Int) : Int := getI t (lawIndex (List.replicate w b) s).toNat
def spImg (s o : Int) (w : Nat) (t : List Int) (b st : Int) (cells : List Int) : D := spSimple (spNew s w t b) (st - o - (w : Int) + 1) (spImgCells s w t b cells)
theorem padW_len (b : Int) (w : Nat) (cells : List Int) : (padW b w cells).length = (w - 1) + cells.length + (w - 1) := by unfold padW; rw [List.length_append, List.length_append, List.length_replicate]
theorem padW_get {b st : Int} {w : Nat} {cells : List Int} {i : Nat} (h : i < (w - 1) + cells.length + (w - 1)) : (padW b w cells)[i]? = some (spCell b st cells (st - ((w - 1 : Nat) : Int) + (i : Int))) := by
  unfold padW spCell
  by_cases h1 : i < w - 1
  · rw [List.append_assoc, List.getElem?_append_left (by rw [List.length_replicate]; exact h1), List.getElem?_replicate, if_pos h1, if_neg (by omega)]
  · by_cases h2 : i < w - 1 + cells.length
    · rw [List.getElem?_append_left (by rw [List.length_append, List.length_replicate]; exact h2), List.getElem?_append_right (by rw [List.length_replicate]; omega), List.length_replicate, if_pos (by omega), getI_at (by omega)]
      congr 2; omega
    · rw [List.getElem?_append_right (by rw [List.length_append, List.length_replicate]; omega), List.length_append, List.length_replicate, List.getElem?_replicate, if_pos (by omega), if_neg (by omega)]
theorem pad_window {b st : Int} {w : Nat} {cells : List Int} {k : Nat} (h : k + w ≤ (w - 1) + cells.length + (w - 1)) : ((padW b w cells).drop k).take w = swin b st cells w (st - ((w - 1 : Nat) : Int) + (k : Int)) := by
  unfold swin
  refine List.ext_getElem? fun i => ?_
  by_cases hi : i < w
  · rw [List.getElem?_take_of_lt hi, List.getElem?_drop, padW_get (st := st) (by omega), List.getElem?_map, List.getElem?_range hi]
    show some _ = some _
    congr 2; omega
  · rw [List.getElem?_eq_none (by rw [List.length_take]; omega), List.getElem?_eq_none (by rw [List.length_map, List.length_range]; omega)]
theorem swin_out {b st : Int} {w : Nat} {cells : List Int} {i : Int} (h : i + (w : Int) ≤ st ∨ st + (cells.length : Int) ≤ i) : swin b st cells w i = List.replicate w b := by
  unfold swin
  refine List.ext_getElem? fun j => ?_
  by_cases hj : j < w
  · rw [List.getElem?_map, List.getElem?_range hj, List.getElem?_replicate, if_pos hj]
    show some (spCell b st cells (i + (j : Int))) = some b
    unfold spCell
    rw [if_neg (by omega)]
  · rw [List.getElem?_eq_none (by rw [List.length_map, List.length_range]; omega), List.getElem?_eq_none (by rw [List.length_replicate]; omega)]
/-- the image's cell at each place -/
theorem img_cell {s o : Int} {w : Nat} {t : List Int} {b st : Int} {cells : List Int} (hw : 1 ≤ w) (i : Int) :
    spCell (spNew s w t b) (st - o - (w : Int) + 1) (spImgCells s w t b cells) i = getI t (lawIndex (swin b st cells w (i + o)) s).toNat := by
  have hl : (spImgCells s w t b cells).length = cells.length + w - 1 := by unfold spImgCells; rw [lawApply_len, padW_len]; omega
  by_cases hi : st - o - (w : Int) + 1 ≤ i ∧ i < st - o - (w : Int) + 1 + ((spImgCells s w t b cells).length : Int)
  · unfold spCell
    rw [if_pos hi]
    rw [hl] at hi
    have hk : (i - (st - o - (w : Int) + 1)).toNat < (padW b w cells).length + 1 - w := by rw [padW_len]; omega
    have g := lawApply_at (s := s) (t := t) hk
    unfold spImgCells
    rw [getI_of g, pad_window (st := st) (by omega)]
    show getI t _ = _
    congr 4; omega
  · have e : spCell (spNew s w t b) (st - o - (w : Int) + 1) (spImgCells s w t b cells) i = spNew s w t b := by unfold spCell; rw [if_neg hi]
    rw [e, swin_out (by rw [hl] at hi; omega)]; rfl
theorem spImg_congr {s o : Int} {w : Nat} {t : List Int} {b st st' : Int} {cs ds : List Int} (hw : 1 ≤ w) (e : ∀ i, spCell b st cs i = spCell b st' ds i) : spImg s o w t b st cs = spImg s o w t b st' ds := by
  unfold spImg
  refine spSimple_congr fun i => ?_
  rw [img_cell hw, img_cell hw]
  congr 3
  unfold swin
  exact List.map_congr_left fun j _ => e _
end Ed

namespace Ed
open PySem PySem.Spec PyProof.Rows L2

inductive R_spread_simple : List Sl → Res → Prop
  | mk (b st : Int) (cells : List Int) (hz : cells.length ≤ 50000) : R_spread_simple [.fz (spreadD b st cells)] (.val (.pv (spSimple b st cells)))
inductive R__law_spread_simple : List Sl → Res → Prop
  | mk (b st : Int) (cells : List Int) (hz : cells.length ≤ 50000) : R__law_spread_simple [.fz (spreadD b st cells)] (.val (.pv (spSimple b st cells)))
inductive R_spread_cell : List Sl → Res → Prop
  | mk (b st : Int) (cells : List Int) (i : Int) (hz : cells.length ≤ 50000) : R_spread_cell [.fz (spreadD b st cells), .fz (.int i)] (.val (.fz (.int (spCell b st cells i))))
inductive R__law_spread_cell : List Sl → Res → Prop
  | mk (b st : Int) (cells : List Int) (i : Int) (hz : cells.length ≤ 50000) : R__law_spread_cell [.fz (spreadD b st cells), .fz (.int i)] (.val (.fz (.int (spCell b st cells i))))
inductive R_spread_image : List Sl → Res → Prop
  | mk (s o : Int) (w : Nat) (t : List Int) (b st : Int) (cells : List Int) (tb : Tb s w t) (hb : 0 ≤ b ∧ b < s) (hr : InR s cells) (hz : cells.length ≤ 40000) :
    R_spread_image [.fz (mapD s o w t), .fz (spreadD b st cells)] (.val (.pv (spImg s o w t b st cells)))
inductive R__law_spread_image : List Sl → Res → Prop
  | mk (s o : Int) (w : Nat) (t : List Int) (b st : Int) (cells : List Int) (tb : Tb s w t) (hb : 0 ≤ b ∧ b < s) (hr : InR s cells) (hz : cells.length ≤ 40000) (ho : -1000 ≤ o ∧ o ≤ 1000) (hst : -(2 ^ 60) ≤ st ∧ st ≤ 2 ^ 60) :
    R__law_spread_image [.fz (mapD s o w t), .fz (spreadD b st cells)] (.val (.pv (spImg s o w t b st cells)))
def spLim (s : Int) : List Int := [s, 41, 9, 4] ++ List.replicate 12 s
def spB (c s : Int) : Int := getI (lawDraws c (spLim s)) 0
def spS (c s : Int) : Int := if getI (lawDraws c (spLim s)) 3 = 0 then (getI (lawDraws c (spLim s)) 1 - 20) * 1000000 else getI (lawDraws c (spLim s)) 1 - 20
def spC0 (c s : Int) : List Int := cutI (lawDraws c (spLim s)) (some 4) (some (4 + getI (lawDraws c (spLim s)) 2))
def spC (c s : Int) : List Int := if getI (lawDraws c (spLim s)) 3 = 1 then
    List.replicate (Builtin.bitAnd (getI (lawDraws c (spLim s)) 1) 3).toNat (spB c s) ++ spC0 c s ++ List.replicate (Builtin.bitAnd (getI (lawDraws c (spLim s)) 1 / 4) 3).toNat (spB c s) else spC0 c s
theorem swin_len (b st : Int) (cells : List Int) (w : Nat) (i : Int) : (swin b st cells w i).length = w := by unfold swin; rw [List.length_map, List.length_range]
theorem spCell_in {s b : Int} {cells : List Int} (hb : 0 ≤ b ∧ b < s) (hr : InR s cells) (st i : Int) : 0 ≤ spCell b st cells i ∧ spCell b st cells i < s := by
  unfold spCell
  split
  · exact getI_in hr (by omega)
  · exact hb
theorem swin_in {s b st : Int} {cells : List Int} (hb : 0 ≤ b ∧ b < s) (hr : InR s cells) (w : Nat) (i : Int) : InR s (swin b st cells w i) := inR_rangeMap fun k _ => spCell_in hb hr st _
theorem spLim_ok {s : Int} (hs : 2 ≤ s ∧ s ≤ 4) : ∀ l ∈ spLim s, 0 < l ∧ l < 1073741824 := fun l hl => by
  unfold spLim at hl
  rcases List.mem_append.mp hl with h | h
  · have : l = s ∨ l = 41 ∨ l = 9 ∨ l = 4 := by simpa using h
    omega
  · rw [(List.mem_replicate.mp h).2]; omega
theorem spD_at (c : Int) {s : Int} (hs : 2 ≤ s ∧ s ≤ 4) {j : Nat} {l : Int} (h : (spLim s)[j]? = some l) : 0 ≤ getI (lawDraws c (spLim s)) j ∧ getI (lawDraws c (spLim s)) j < l := by
  obtain ⟨d, e, b⟩ := draws_at c (fun l hl => (spLim_ok hs l hl).1) h
  rw [getI_of e]; exact b
theorem spD_ok (c : Int) {s : Int} (hs : 2 ≤ s ∧ s ≤ 4) : (0 ≤ getI (lawDraws c (spLim s)) 0 ∧ getI (lawDraws c (spLim s)) 0 < s) ∧ (0 ≤ getI (lawDraws c (spLim s)) 1 ∧ getI (lawDraws c (spLim s)) 1 < 41) ∧ (0 ≤ getI (lawDraws c (spLim s)) 2 ∧ getI (lawDraws c (spLim s)) 2 < 9) :=
  ⟨spD_at c hs rfl, spD_at c hs rfl, spD_at c hs rfl⟩
theorem spC0_eq (c : Int) {s : Int} (hs : 2 ≤ s ∧ s ≤ 4) : spC0 c s = ((lawDraws c (spLim s)).drop 4).take (getI (lawDraws c (spLim s)) 2).toNat := by
  have h := spD_ok c hs
  unfold spC0
  rw [show (4 : Int) + getI (lawDraws c (spLim s)) 2 = ((4 + (getI (lawDraws c (spLim s)) 2).toNat : Nat) : Int) by omega, show (some (4 : Int)) = some ((4 : Nat) : Int) from rfl, cut_nat, Nat.add_sub_cancel_left]
theorem spC0_ok (c : Int) {s : Int} (hs : 2 ≤ s ∧ s ≤ 4) : (spC0 c s).length ≤ 8 ∧ InR s (spC0 c s) := by
  have h := spD_ok c hs
  rw [spC0_eq c hs]
  refine ⟨by rw [List.length_take]; omega, InR.take (fun x hx => ?_) _⟩
  obtain ⟨i, hi⟩ := List.mem_iff_getElem?.mp hx
  rw [List.getElem?_drop] at hi
  have hl : 4 + i < 16 := by
    have := (List.getElem?_eq_some_iff.mp hi).1
    rw [draws_len] at this
    exact this
  have hs2 : (spLim s)[4 + i]? = some s := by
    unfold spLim
    rw [List.getElem?_append_right (by show 4 ≤ 4 + i; omega), List.getElem?_replicate]
    exact if_pos (by show 4 + i - 4 < 12; omega)
  have := spD_at c hs hs2
  rw [getI_of hi] at this
  exact this
theorem spC_ok (c : Int) {s : Int} (hs : 2 ≤ s ∧ s ≤ 4) : (spC c s).length ≤ 14 ∧ InR s (spC c s) := by
  have h0 := spC0_ok c hs
  have a1 := bitAnd_range (getI (lawDraws c (spLim s)) 1) (y := 3) (by decide)
  have a2 := bitAnd_range (getI (lawDraws c (spLim s)) 1 / 4) (y := 3) (by decide)
  have hb := (spD_ok c hs).1
  unfold spC
  split
  · refine ⟨by rw [List.length_append, List.length_append, List.length_replicate, List.length_replicate]; omega, InR.app (InR.app (fun x hx => ?_) h0.2) fun x hx => ?_⟩
    · rw [(List.mem_replicate.mp hx).2]; exact hb
    · rw [(List.mem_replicate.mp hx).2]; exact hb
  · exact ⟨by omega, h0.2⟩
theorem spS_ok (c : Int) {s : Int} (hs : 2 ≤ s ∧ s ≤ 4) : -20000000 ≤ spS c s ∧ spS c s ≤ 20000000 := by
  have h := spD_ok c hs
  unfold spS
  split <;> omega
inductive R__law_spread : List Sl → Res → Prop
  | mk (c s : Int) (hs : 2 ≤ s ∧ s ≤ 4) : R__law_spread [.fz (.int c), .fz (.int s)] (.val (.fz (spreadD (spB c s) (spS c s) (spC c s))))
theorem spTx {s b st : Int} {cells : List Int} (hs : s ≤ 4) (hb : 0 ≤ b ∧ b < s) (hst : -(2 ^ 40) ≤ st ∧ st ≤ 2 ^ 40) (hr : InR s cells) : Tx 2 (cells.length * 4 + 60) (spreadD b st cells) := by
  have t1 : Tx 1 3 (.int b) := Tx.int (m := 3) (by omega) (by decide)
  have t2 : Tx 1 42 (.int st) := Tx.int (m := 42) (by omega) (by decide)
  have t3 : Tx 1 (cells.length * 4) (.list (iL cells)) := Tx.list (Txs.ints (m := 3) (by decide) fun i hi => by have := hr i hi; omega)
  exact (Tx.tup (Txs.cons t1 (Txs.cons t2 (Txs.cons t3 Txs.nil)))).up (Nat.le_refl _) (by omega)
theorem spBody_in {s b : Int} {cells : List Int} (hr : InR s cells) : InR s (spBody b cells) := (hr.drop _).take _
theorem spSt_ok {b st : Int} {cells : List Int} {m : Int} (h0 : 0 ≤ m) (h : -m ≤ st ∧ st ≤ m) : -m ≤ spSt b st cells ∧ spSt b st cells ≤ m + (cells.length : Int) := by
  have := spF_le (b := b) (cells := cells)
  unfold spSt
  split <;> omega
theorem spBody_le {b : Int} {cells : List Int} : (spBody b cells).length ≤ cells.length := by
  have := spL_ok (b := b) (cells := cells)
  rw [spBody_len]; omega
def k08Places (o st : Int) : List Int := (List.range 41).map (fun (i : Nat) => st + (-20 + (i : Int))) ++ (List.range 33).map (fun (i : Nat) => st - o + (-16 + (i : Int))) ++ [0, (10 : Int) ^ (15 : Int).toNat, -(10 : Int) ^ (15 : Int).toNat]
end Ed

namespace Ed
open PySem PySem.Spec PyProof.Rows L2

/-! ## exceptions -/
section
variable {K : PySem.W.Frag} {ρ : List Sl} {E E' : XK} {P : Post}
theorem ev_is {i : Nat} {w : V} (h : ρ[i]? = some (.is w)) : EvR K (tVar i) ρ (.is w) := fun F0 H0 F H σ c Q q => by
  obtain ⟨v, h1, h2⟩ := c.get h nofun
  exact ⟨v, h1, q v F H (.refl c.ex.fh) h2⟩
theorem Cfg.setIs {F0 H0 F H : Hp} {σ : L2.St} (c : Cfg K F0 H0 F H σ ρ) (i : Nat) (v : V) : Cfg K F0 H0 F H (σ.set i (some v)) (ρ.set i (.is v)) := c.setR (.refl c.ex.fh) i (s := .is v) rfl
theorem s_raise {c : Value} (k : P.xs c) : Run K E (fun _ _ H => E c none H) ρ P := fun F0 H0 F H σ D cf _ _ _ _ x => x _ F H cf.ex k
/-- try: f(..) except X as e: suite, where f raises an X -/
theorem s_tryX {R : List Sl → Res → Prop} {ta : TA} {rs : List Sl} {c C : Value} {i : Nat} {ts : Addr → Value → Option Addr → TS} {Wout : WX} (ha : EvA K ta ρ rs) (hR : R rs (.exc C)) (hm : PySem.W.exmOne K C c = some true)
    (hs : ∀ a : Addr, Run K E' (ts a C none) (ρ.set i (.is (.ref a))) { nx := fun r => P.nx (r.set i .no), rt := P.rt, bk := fun r => P.bk (r.set i .no), ct := fun r => P.ct (r.set i .no) }) :
    Run K E (fun D σ H => (tDrop (tCallS (SpR K R) (WE (wAs K c i ts Wout D)) ta)) D σ H) ρ P := fun F0 H0 F H σ D cf n r b t x =>
  ha F0 H0 F H σ cf _ fun vs F1 H1 e1 gs => ⟨F1, rs, .exc C, e1.fh, gs, hR, fun F2 H2 e2 => ⟨true, hm, fun _ a _ => by
    have e := e1.trans e2
    refine hs a F0 H0 F2 H2 _ _ ((cf.up e).setIs i (.ref a)) ?_ r ?_ ?_ ?_
    · exact fun F' H' σ' ρ' f' c' m => n F' H' _ _ (e.ff.trans f') (c'.unset i) m
    · exact fun F' H' σ' ρ' f' c' m => b F' H' _ _ (e.ff.trans f') (c'.unset i) m
    · exact fun F' H' σ' ρ' f' c' m => t F' H' _ _ (e.ff.trans f') (c'.unset i) m
    · exact fun _ _ _ _ z => False.elim z, fun z => nomatch z⟩⟩
end
/-- isinstance(e, c), isinstance(e, (c, ..)), e the exception that the suite holds -/
def rIsX (K : PySem.W.Frag) (a : Addr) (cls : Value) (d : Option Addr) : List V → Hp → VK → Prop := fun xs H Q => ∃ (D : Addr) (b : Bool), cls = .ref D ∧ d = none ∧ ExcC K D ∧
  ((∃ (c : V) (cv : Value), xs = [.ref a, c] ∧ (∀ u, RelV c u → u = cv) ∧ PySem.W.kitOne K (.ref D) cv = some b) ∨
    (∃ (p : Addr) (ws : List V) (cs : List Value), xs = [.ref a, .ref p] ∧ H p = some (.tup ws) ∧ (∀ us, Vals ws us → us = cs) ∧ PySem.W.kitAny K (.ref D) cs = some b)) ∧ Q (.bl b) H
theorem call_isX {X : Cx} {a : Addr} {oe : Obj} {cls : Value} {d : Option Addr} {pn : List (Addr × Obj)} (hz : Zc cls d oe) (hf : ∃ vs, oe.data = .fields vs) : CallR (X.suite a ((a, oe) :: pn)) (.builtin "isinstance") (rIsX X.K a cls d) := by
  intro pins s σ H xs us Q I r h
  obtain ⟨D, b, rfl, rfl, C, h, q⟩ := h
  rcases h with ⟨c, cv, rfl, hcv, e⟩ | ⟨p, ws, cs, rfl, hp, hcs, e⟩
  · exact call_isE C hz hf pins s σ H _ us Q I r ⟨c, cv, b, rfl, hcv, e, q⟩
  · cases r with
    | cons rx rr =>
      cases rr with
      | cons rt rr =>
        cases rr
        cases rx
        cases rt
        obtain ⟨_, its, rv, o, ho, hoc, n, hod⟩ := (show ObjOk X.prog X.w H s.heap p (.tup ws) from I.hok p _ hp)
        have ec := hcs _ rv
        subst ec
        obtain ⟨hget, _⟩ := I.pin (a, oe) (List.mem_append.mpr (.inl List.mem_cons_self))
        obtain ⟨vs, hv⟩ := hf
        have J : PySem.W.InstAt s.heap a oe D none := by
          obtain ⟨oc, od, oda, osl⟩ := oe
          obtain ⟨h1, h2⟩ := hz
          dsimp only at h1 h2 hv
          subst h1 h2 hv
          exact ⟨hget, rfl, rfl, trivial⟩
        obtain ⟨oc, od, oda, osl⟩ := o
        dsimp only at hoc hod
        subst hoc hod
        exact PySem.W.kia_tup (PySem.W.handS_kitx_exc C.hg C.hk C.hs C.hd C.ha C.hn C.ht C.hm) I.kIn J ho e (fun z => nomatch z) fun tk => ⟨.bl b, H, I.kept (t' := tk) fun _ _ z => z, rfl, q⟩
section
variable {K : PySem.W.Frag} {ρ : List Sl} {a D : Addr} {i : Nat} {b : Bool}
theorem ev_isX1 {w : V} {cv : Value} (h : ρ[i]? = some (.is (.ref a))) (C : ExcC K D) (hw : ∀ u, RelV w u → u = cv) (hk : PySem.W.kitOne K (.ref D) cv = some b) : EvD K (tCB (rIsX K a (.ref D) none) (tCons (tVar i) (tCons (tC w) tNil))) ρ (.bool b) := fun F0 H0 F H σ c Q q => by
  obtain ⟨v, h1, h2⟩ := c.get h nofun
  have h2 : v = .ref a := h2
  subst h2
  exact ⟨_, h1, D, b, rfl, rfl, C, .inl ⟨w, cv, rfl, hw, hk⟩, q _ F H (.refl c.ex.fh) (.bl b)⟩
theorem ev_isX2 {w x : V} {cv cx : Value} (h : ρ[i]? = some (.is (.ref a))) (C : ExcC K D) (hw : ∀ u, RelV w u → u = cv) (hx : ∀ u, RelV x u → u = cx) (hk : PySem.W.kitAny K (.ref D) [cv, cx] = some b) :
    EvD K (tCB (rIsX K a (.ref D) none) (tCons (tVar i) (tCons (tTup (tCons (tC w) (tCons (tC x) tNil))) tNil))) ρ (.bool b) := fun F0 H0 F H σ c Q q => by
  obtain ⟨v, h1, h2⟩ := c.get h nofun
  have h2 : v = .ref a := h2
  subst h2
  refine ⟨_, h1, (by show 2 ≤ sizeLine; decide), fun p hp => ⟨D, b, rfl, rfl, C, .inr ⟨p, [w, x], [cv, cx], rfl, upd_same, fun us hu => ?_, hk⟩, q _ F _ (.own c.ex.fh hp) (.bl b)⟩⟩
  cases hu with
  | cons r1 hr =>
    cases hr with
    | cons r2 hr =>
      cases hr
      rw [hw _ r1, hx _ r2]
theorem rel_ref {a : Addr} : ∀ u, RelV (.ref a) u → u = Value.ref a := fun u h => by cases h; rfl
theorem rel_ty {T : String} : ∀ u, RelV (.ty T) u → u = Value.type T := fun u h => by cases h; rfl
end
section
variable {X : Cx} {P : Program} {w : World} {x : Str} {ps : List Str} {k j : Nat} {sp : Sp} {pos p : Pos} {e : Expr} {es : List Expr} {t : TA}
/-- a def that may raise, where it doesn't -/
theorem pe_calN (c : Cal X.prog X.w X.K X.mg X.base (L2.CX X.prog X.w) x ps j sp) (hr : Room k X.A) (hG : X.A.guards = some []) (hjk : j ≤ k) (hg : Gl X x) (ha : PA X (e :: es) t) (hdb : (x == ("__debug__" : Str)) = false := by decide)
    (he : starEach (e :: es) X.env = (false, eval e X.env) :: starEach es X.env := by rfl) (hpl : (backTo pos (starEach es X.env)).any (·.1) = false := by rfl) : PE X (.Call (.Name x p) (e :: es) [] pos) (tCallS sp (fun _ => E0) t) :=
  pe_calS c hr hG hjk hg (fun σ pins H s e s' I h => by
    obtain ⟨_, _, _, _, _, _, _, _, _, _, _, _, hE⟩ := h
    exact hE.elim) ha hdb he hpl
theorem call_reprS {a : Addr} {pn : List (Addr × Obj)} (hr : Room k X.A) (hG : X.A.guards = some []) : CallR (X.suite a pn) (.builtin "repr") (rReprD X.K) := by
  intro pins s σ H xs us Q I r h
  obtain ⟨p, d, rfl, hd, hs, hn, hdep, hz, q⟩ := h
  obtain ⟨u, rfl, ru⟩ := vals1 r
  cases ru
  obtain ⟨as, hr'⟩ := Dp.reads I d (.ref p) (.ref p) hd rfl
  refine repr_of_reads' (h₀ := s.heap) hr' hs (fun z => by rw [hn] at z; cases z) hG (by have := hr.units; show X.A.units + _ < _; omega) (fun _ _ e => e) (fun h' u' tk hk => ?_) hz
  exact ⟨.str d.shown, H, I.kept (h' := h') (t' := tk) hk, ⟨u', rfl⟩, q⟩
end
theorem takes0 {X : Cx} : Takes X (fun _ _ _ _ => False) := fun _ _ x => by
  obtain ⟨_, _, _, _, _, _, _, _, _, _, _, _, _, _, _, _, z⟩ := x
  exact z.elim
/-- what the top says of an own class of exceptions -/
structure ExcT (K : PySem.W.Frag) (C : Addr) : Prop where
  x : PySem.W.excIn K C [.type "ValueError", .type "Exception", .type "BaseException", .type "object"] "ValueError.__new__" = true
  k : PySem.W.keepIn K (.ref C) = true
  b : PySem.W.subIn K (.ref C) (.type "BaseException") = some true
  t : PySem.W.typeIn K (.ref C) = some (.type "type")
  i : PySem.W.hasDictIn K C = true
  s : PySem.W.subIn K (.ref C) (.ref C) = some true
theorem ExcT.em {K : PySem.W.Frag} {C : Addr} (T : ExcT K C) : PySem.W.exmOne K (.ref C) (.ref C) = some true := PySem.W.exm_ref T.b T.i T.t T.s
end Ed

namespace Ed
open PySem PySem.Spec PyProof.Rows L2
inductive R_size_fits : List Sl → Res → Prop
  | mk (s : Int) : R_size_fits [.fz (.int s)] (.val (.fz (.bool (decide (2 ≤ s) && decide (s ≤ 4)))))
inductive R_offset_fits : List Sl → Res → Prop
  | mk (o : Int) : R_offset_fits [.fz (.int o)] (.val (.fz (.bool (decide (-100 ≤ o) && decide (o ≤ 100)))))
/-- limited_power: f turns are left -/
def limP (s : Int) : Nat → Int → Int → Int
  | 0, _, r => r
  | f + 1, e, r => if 0 < e ∧ r ≤ 4096 then limP s f (e - 1) (r * s) else r
def limQ (s e : Int) : Int := limP s 14 e 1
inductive R_limited_power : List Sl → Res → Prop
  | mk (s e : Int) (hs : 2 ≤ s ∧ s ≤ 4) : R_limited_power [.fz (.int s), .fz (.int e), .fz (.int 4096)] (.val (.fz (.int (limQ s e))))
def bmD (s o w : Int) (t : List Int) : D := .tuple [.int s, .int o, .int w, .list (iL t)]
def okMap (s o w : Int) (t : List Int) : Bool := (decide (2 ≤ s) && decide (s ≤ 4)) && (decide (-100 ≤ o) && decide (o ≤ 100)) && !decide (w < 1) && !decide (4096 < limQ s w) && decide ((t.length : Int) = limQ s w) && t.all fun c => decide (0 ≤ c) && decide (c < s)
def chkR (C : Addr) (s o w : Int) (t : List Int) : Res := if okMap s o w t then .val (.fz .none) else .exc (.ref C)
inductive R_check_map (C : Addr) : List Sl → Res → Prop
  | mk (s o w : Int) (t : List Int) : R_check_map C [.fz (bmD s o w t)] (chkR C s o w t)

theorem limP_spec {s : Int} (hs : 2 ≤ s) : ∀ (f : Nat) (e r : Int), 0 ≤ e → 2 ^ (14 - f) ≤ r → f ≤ 14 → (limP s f e r ≤ 4096 → limP s f e r = r * s ^ e.toNat) ∧ (4096 < limP s f e r → 4096 < r * s ^ e.toNat)
  | 0, e, r, he, hr, _ => by
    have p : (2 : Int) ^ (14 - 0) = 16384 := by decide
    have e0 : limP s 0 e r = r := rfl
    have h1 : 1 ≤ s ^ e.toNat := by have := pow_pos' (show 0 < s by omega) e.toNat; omega
    have h2 : r * 1 ≤ r * s ^ e.toNat := Int.mul_le_mul_of_nonneg_left h1 (by omega)
    rw [e0]
    exact ⟨fun z => by omega, fun _ => by omega⟩
  | f + 1, e, r, he, hr, hf => by
    have h1 : 1 ≤ s ^ e.toNat := by have := pow_pos' (show 0 < s by omega) e.toNat; omega
    have hr0 : 0 < (2 : Int) ^ (14 - (f + 1)) := Int.pow_pos (by decide)
    have h2 : r * 1 ≤ r * s ^ e.toNat := Int.mul_le_mul_of_nonneg_left h1 (by omega)
    by_cases hc : 0 < e ∧ r ≤ 4096
    · have e1 : limP s (f + 1) e r = limP s f (e - 1) (r * s) := if_pos hc
      have p : (2 : Int) ^ (14 - f) = 2 ^ (14 - (f + 1)) * 2 := by rw [show 14 - f = (14 - (f + 1)) + 1 by omega, Int.pow_succ]
      have hm : r * 2 ≤ r * s := Int.mul_le_mul_of_nonneg_left hs (by omega)
      have ih := limP_spec hs f (e - 1) (r * s) (by omega) (by omega) (by omega)
      have pe : s ^ e.toNat = s ^ (e - 1).toNat * s := by rw [show e.toNat = (e - 1).toNat + 1 by omega, Int.pow_succ]
      have pm : r * s * s ^ (e - 1).toNat = r * s ^ e.toNat := by rw [pe, Int.mul_assoc, Int.mul_comm s]
      rw [e1, ← pm]
      exact ih
    · have e1 : limP s (f + 1) e r = r := if_neg hc
      rw [e1]
      refine ⟨fun z => ?_, fun z => by omega⟩
      have : e = 0 := by omega
      subst this
      simp
theorem limQ_spec {s e : Int} (hs : 2 ≤ s) (he : 0 ≤ e) : (limQ s e ≤ 4096 → limQ s e = s ^ e.toNat) ∧ (4096 < limQ s e → 4096 < s ^ e.toNat) := by
  have h := limP_spec hs 14 e 1 he (by decide) (Nat.le_refl _)
  rw [Int.one_mul] at h
  exact h
structure OkM (s o w : Int) (t : List Int) : Prop where
  hs : 2 ≤ s ∧ s ≤ 4
  ho : -100 ≤ o ∧ o ≤ 100
  hw : 1 ≤ w
  hl : (t.length : Int) = s ^ w.toNat
  hm : t.length ≤ 4096
  hc : InR s t
theorem okMap_iff {s o w : Int} {t : List Int} : okMap s o w t = true ↔ OkM s o w t := by
  unfold okMap
  simp only [Bool.and_eq_true, decide_eq_true_eq, Bool.not_eq_true', decide_eq_false_iff_not, List.all_eq_true]
  constructor
  · rintro ⟨⟨⟨⟨⟨h1, h2⟩, h3⟩, h4⟩, h5⟩, h6⟩
    have q := limQ_spec (s := s) (e := w) h1.1 (by omega)
    have e := q.1 (by omega)
    exact ⟨h1, h2, by omega, by omega, by omega, fun c hc => h6 c hc⟩
  · intro x
    have h1 := x.hs
    have h3 := x.hw
    have h4 := x.hl
    have h5 := x.hm
    have q := limQ_spec (s := s) (e := w) h1.1 (by omega)
    have e : limQ s w ≤ 4096 := by
      rcases Int.lt_or_le 4096 (limQ s w) with z | z
      · have := q.2 z; omega
      · exact z
    have e2 := q.1 e
    exact ⟨⟨⟨⟨⟨h1, x.ho⟩, by omega⟩, by omega⟩, by omega⟩, fun c hc => x.hc c hc⟩
theorem okNo {s o w : Int} {t : List Int} (h : ¬ OkM s o w t) : okMap s o w t = false := by
  cases e : okMap s o w t with
  | false => rfl
  | true => exact absurd (okMap_iff.mp e) h
theorem ok_yes {s o : Int} {w : Nat} {t : List Int} (tb : Tb s w t) (ho : -100 ≤ o ∧ o ≤ 100) : OkM s o (w : Int) t := ⟨tb.hs, ho, by have := tb.hw; omega, by rw [Int.toNat_natCast]; exact tb.hl, tb.hm, tb.hc⟩
def BadD (d : D) : Prop := ∃ s o w t k n, d = bmD s o w t ∧ okMap s o w t = false ∧ Tx k n (bmD s o w t) ∧ k ≤ 60 ∧ n ≤ 524288
inductive AllB : List D → Prop
  | nil : AllB []
  | cons {d : D} {ds : List D} : BadD d → AllB ds → AllB (d :: ds)
theorem AllB.app : ∀ {ds es : List D}, AllB ds → AllB es → AllB (ds ++ es)
  | _, _, .nil, h => h
  | _, _, .cons a b, h => .cons a (b.app h)
theorem AllB.at : ∀ {ds : List D} {i : Nat} {d : D}, AllB ds → ds[i]? = some d → BadD d
  | _, 0, _, .cons a _, e => by cases e; exact a
  | _, i + 1, _, .cons _ b, e => b.at (i := i) (by simpa using e)
theorem bmTx {s o w : Int} {t : List Int} {m : Nat} (hm : m ≤ 60) (h1 : s.natAbs < 2 ^ m) (h2 : o.natAbs < 2 ^ m) (h3 : w.natAbs < 2 ^ m) (hc : ∀ c ∈ t, c.natAbs < 2 ^ m) : Tx 2 ((m + 1) + (t.length * (m + 1)) + (m + 1) + (m + 1) + 200) (bmD s o w t) := by
  have t1 : Tx 1 m (.int s) := Tx.int h1 hm
  have t2 : Tx 1 m (.int o) := Tx.int h2 hm
  have t3 : Tx 1 m (.int w) := Tx.int h3 hm
  have t4 : Tx 1 (t.length * (m + 1)) (.list (iL t)) := Tx.list (Txs.ints hm hc)
  exact (Tx.tup (Txs.cons t1 (Txs.cons t2 (Txs.cons t3 (Txs.cons t4 Txs.nil))))).up (Nat.le_refl _) (by omega)
theorem BadD.of {s o w : Int} {t : List Int} (h : ¬ OkM s o w t) (h1 : -(2 ^ 50) ≤ s ∧ s ≤ 2 ^ 50) (h2 : -(2 ^ 50) ≤ o ∧ o ≤ 2 ^ 50) (h3 : -(2 ^ 50) ≤ w ∧ w ≤ 2 ^ 50) (hc : ∀ c ∈ t, -(2 ^ 50) ≤ c ∧ c ≤ 2 ^ 50) (hl : t.length ≤ 9000) : BadD (bmD s o w t) :=
  ⟨s, o, w, t, _, _, rfl, okNo h, bmTx (m := 51) (by decide) (by omega) (by omega) (by omega) (fun c hx => by have := hc c hx; omega), by decide, by omega⟩
theorem BadD.zeros {s o w : Int} {n : Nat} (h : ¬ OkM s o w (List.replicate n 0)) (h1 : -100 ≤ s ∧ s ≤ 100) (h2 : -100 ≤ o ∧ o ≤ 100) (h3 : -100 ≤ w ∧ w ≤ 100) (hn : n ≤ 20000) : BadD (bmD s o w (List.replicate n 0)) :=
  ⟨s, o, w, _, _, _, rfl, okNo h, bmTx (m := 7) (by decide) (by omega) (by omega) (by omega) (fun c hx => by rw [(List.mem_replicate.mp hx).2]; decide), by decide, by rw [List.length_replicate]; omega⟩
theorem ev_bm {K : PySem.W.Frag} {ρ : List Sl} {ta tb tc td : TE} {s o w : Int} {t : List Int} (h1 : EvI K ta ρ s) (h2 : EvI K tb ρ o) (h3 : EvI K tc ρ w) (h4 : EvD K td ρ (.list (iL t))) : EvD K (tTup (tCons ta (tCons tb (tCons tc (tCons td tNil))))) ρ (bmD s o w t) :=
  ev_tup (ds := [.int s, .int o, .int w, .list (iL t)]) (ea_cons h1 (ea_cons h2 (ea_cons h3 (ea_cons h4 ea_nil)))) (by show 4 ≤ sizeLine; decide)
theorem cut_from (xs : List Int) (a : Nat) : cutI xs (some (a : Int)) none = xs.drop a := by
  unfold cutI
  rw [HT.sIx_nat]
  show (xs.drop (min a xs.length)).take (xs.length - min a xs.length) = xs.drop a
  by_cases h : a ≤ xs.length
  · rw [Nat.min_eq_left h, List.take_of_length_le (by rw [List.length_drop]; omega)]
  · rw [Nat.min_eq_right (show xs.length ≤ a by omega), Nat.sub_self, List.take_zero, List.drop_of_length_le (by omega)]
/-- xs[:i] + [c] + xs[i + 1:] -/
theorem ev_put {K : PySem.W.Frag} {ρ : List Sl} {ta : TE} {tc : TE} {td te : TO} {xs : List Int} {i : Nat} {c : Int} (h1 : EvD K ta ρ (.list (iL xs))) (h2 : EvO K td ρ (some (i : Int))) (h3 : EvI K tc ρ c) (h4 : EvO K te ρ (some ((i + 1 : Nat) : Int))) (hz : xs.length ≤ 90000) :
    EvD K (tOp rCat (tOp rCat (tSl (rSlL K) ta tNoPart td) (tLst (tCons tc tNil))) (tSl (rSlL K) ta te tNoPart)) ρ (.list (iL (xs.take i ++ [c] ++ xs.drop (i + 1)))) := by
  have e1 : EvD K (tSl (rSlL K) ta tNoPart td) ρ (.list (iL (xs.take i))) := EvR.fr (EvR.is (ev_sl h1 eo_none h2) (by rw [iL_cut, cut_to]))
  have e2 : EvD K (tSl (rSlL K) ta te tNoPart) ρ (.list (iL (xs.drop (i + 1)))) := EvR.fr (EvR.is (ev_sl h1 h4 eo_none) (by rw [iL_cut, cut_from]))
  refine EvR.fr (EvR.is (ev_cat (EvR.fr (ev_cat e1 (EvR.fr (ev_lst (ds := iL [c]) (ea_cons h3 ea_nil) (by show 1 ≤ sizeLine; decide))) ?_)) e2 ?_) ?_)
  · rw [iL_len, iL_len, List.length_take]; exact small100' (by show min i xs.length + 1 ≤ 100000; omega)
  · rw [List.length_append, iL_len, iL_len, iL_len, List.length_take, List.length_drop]; exact small100' (by show min i xs.length + 1 + (xs.length - (i + 1)) ≤ 100000; omega)
  · rw [iL_app, iL_app]
theorem put_len {xs : List Int} {i : Nat} {c : Int} (h : i < xs.length) : (xs.take i ++ [c] ++ xs.drop (i + 1)).length = xs.length := by
  rw [List.length_append, List.length_append, List.length_take, List.length_drop]
  show min i xs.length + 1 + _ = _
  omega
theorem put_mem {xs : List Int} {i : Nat} {c : Int} : c ∈ xs.take i ++ [c] ++ xs.drop (i + 1) := by simp
theorem put_all {p : Int → Prop} {xs : List Int} {i : Nat} {c : Int} (h : ∀ x ∈ xs, p x) (hc : p c) : ∀ x ∈ xs.take i ++ [c] ++ xs.drop (i + 1), p x := fun x hx => by
  rcases List.mem_append.mp hx with hx | hx
  · rcases List.mem_append.mp hx with hx | hx
    · exact h x (List.mem_of_mem_take hx)
    · rw [List.mem_singleton.mp hx]; exact hc
  · exact h x (List.mem_of_mem_drop hx)
theorem pow_lt_add {s : Int} (hs : 2 ≤ s) (w d : Nat) (hd : 1 ≤ d) : s ^ w < s ^ (w + d) := by
  rw [Int.pow_add]
  have h1 := pow_pos' (show 0 < s by omega) w
  have h2 := pow_two_le s hs d
  have h3 : s ^ w * 2 ≤ s ^ w * s ^ d := Int.mul_le_mul_of_nonneg_left (by omega) (by omega)
  omega
end Ed

namespace Ed
open PySem PySem.Spec PyProof.Rows L2

/-! ## reduced maps -/
theorem idx_cons (c : Int) (r : List Int) (s : Int) : lawIndex (c :: r) s = c * s ^ r.length + lawIndex r s := by
  have h := idx_app [c] r s
  have e : lawIndex [c] s = c := by show 0 * s + c = c; omega
  rw [e] at h
  exact h
theorem digSt_sum {s : Int} (hs : 0 < s) (k : Int) : ∀ n, k = (digSt k s n).2 * s ^ n + lawIndex (digSt k s n).1 s
  | 0 => by show k = k * s ^ 0 + 0; simp
  | n + 1 => by
    have ih := digSt_sum hs k n
    have hl := digSt_len k s n
    show k = (digSt k s n).2 / s * s ^ (n + 1) + lawIndex ((digSt k s n).2 % s :: (digSt k s n).1) s
    rw [idx_cons, hl]
    generalize (digSt k s n).2 = q at ih
    generalize lawIndex (digSt k s n).1 s = r at ih
    have e := Int.mul_ediv_add_emod q s
    have e2 : (s * (q / s) + q % s) * s ^ n = q / s * s ^ (n + 1) + q % s * s ^ n := by
      rw [Int.add_mul, Int.pow_succ, Int.mul_comm s (q / s), Int.mul_assoc, Int.mul_comm s (s ^ n)]
    rw [e] at e2
    omega
theorem idx_digits {s : Int} (hs : 0 < s) {k : Int} {w : Nat} (h0 : 0 ≤ k) (h1 : k < s ^ w) : lawIndex (lawDigits k s w) s = k := by
  have e := digSt_sum hs k w
  have b := idx_bound hs (lawDigits k s w) (digits_in hs k w)
  rw [digits_len] at b
  have hp := pow_pos' hs w
  unfold lawDigits at b ⊢
  generalize (digSt k s w).2 = q at e
  generalize lawIndex (digSt k s w).1 s = r at e b ⊢
  have : q = 0 := by
    rcases Int.lt_trichotomy q 0 with z | z | z
    · have : q * s ^ w ≤ -1 * s ^ w := Int.mul_le_mul_of_nonneg_right (by omega) (by omega)
      omega
    · exact z
    · have : 1 * s ^ w ≤ q * s ^ w := Int.mul_le_mul_of_nonneg_right (by omega) (by omega)
      omega
  subst this
  omega
abbrev MS := Int × Nat × List Int
def Row (s : Int) (x : Int → Int) : Prop := ∀ i, 0 ≤ x i ∧ x i < s
def win (x : Int → Int) (o : Int) (w : Nat) : List Int := (List.range w).map fun (j : Nat) => x (o + (j : Int))
def rv (s : Int) (m : MS) (x : Int → Int) : Int := getI m.2.2 (lawIndex (win x m.1 m.2.1) s).toNat
theorem win_len (x : Int → Int) (o : Int) (w : Nat) : (win x o w).length = w := by unfold win; rw [List.length_map, List.length_range]
theorem win_in {s : Int} {x : Int → Int} (h : Row s x) (o : Int) (w : Nat) : InR s (win x o w) := inR_rangeMap fun k _ => h _
theorem win_snoc (x : Int → Int) (o : Int) (w : Nat) : win x o (w + 1) = win x o w ++ [x (o + (w : Int))] := by
  unfold win
  rw [List.range_succ, List.map_append]; rfl
theorem win_cons (x : Int → Int) (o : Int) (w : Nat) : win x o (w + 1) = x o :: win x (o + 1) w := by
  unfold win
  rw [List.range_succ_eq_map, List.map_cons, List.map_map]
  congr 1
  · show x (o + 0) = x o; rw [Int.add_zero]
  · refine List.map_congr_left fun j _ => ?_
    show x (o + ((j + 1 : Nat) : Int)) = x (o + 1 + (j : Int))
    congr 1; omega
theorem win_congr {x y : Int → Int} {o : Int} {w : Nat} (h : ∀ i, o ≤ i → i < o + (w : Int) → x i = y i) : win x o w = win y o w := by
  unfold win
  refine List.map_congr_left fun j hj => h _ (by omega) ?_
  rw [List.mem_range] at hj
  omega
def rowOf (o : Int) (cs : List Int) (i : Int) : Int := if o ≤ i ∧ i < o + (cs.length : Int) then getI cs (i - o).toNat else 0
theorem rowOf_row {s : Int} (hs : 0 < s) {cs : List Int} (h : InR s cs) (o : Int) : Row s (rowOf o cs) := fun i => by
  unfold rowOf
  split
  · exact getI_in h (by omega)
  · omega
theorem win_rowOf (o : Int) (cs : List Int) : win (rowOf o cs) o cs.length = cs := by
  unfold win
  refine List.ext_getElem? fun i => ?_
  by_cases hi : i < cs.length
  · rw [List.getElem?_map, List.getElem?_range hi, getI_at hi]
    show some (rowOf o cs (o + (i : Int))) = _
    unfold rowOf
    rw [if_pos (by omega)]
    congr 2; omega
  · rw [List.getElem?_eq_none (by rw [List.length_map, List.length_range]; omega), List.getElem?_eq_none (by omega)]
section
variable {s : Int} {o : Int} {w : Nat} {t : List Int}
theorem rv_rowOf {cs : List Int} (hl : cs.length = w) : rv s (o, w, t) (rowOf o cs) = getI t (lawIndex cs s).toNat := by
  subst hl
  unfold rv
  show getI t (lawIndex (win (rowOf o cs) o cs.length) s).toNat = _
  rw [win_rowOf]
theorem Tb.S (tb : Tb s w t) : ((s.toNat : Nat) : Int) = s := by have := tb.hs; omega
/-- the table's part behind a first cell -/
theorem Tb.part {v : Nat} (tb : Tb s (v + 1) t) : ((t.length / s.toNat : Nat) : Int) = s ^ v ∧ t.length = s.toNat * (t.length / s.toNat) ∧ 0 < t.length / s.toNat := by
  have hS := tb.S
  have hs := tb.hs
  have hl := tb.hl
  have hp := pow_pos' (show 0 < s by omega) v
  obtain ⟨P, hP⟩ : ∃ P : Nat, s ^ v = (P : Int) := ⟨(s ^ v).toNat, by omega⟩
  have e : t.length = s.toNat * P := by
    have : (t.length : Int) = ((s.toNat * P : Nat) : Int) := by rw [hl, Int.pow_succ, hP, Int.natCast_mul, hS, Int.mul_comm]
    exact Int.ofNat.inj this
  have e2 : t.length / s.toNat = P := by rw [e]; exact Nat.mul_div_cancel_left P (by omega)
  rw [e2]
  exact ⟨hP.symm, e, by omega⟩
theorem Tb.get (tb : Tb s w t) {k : Nat} (hk : k < t.length) (o : Int) : Row s (rowOf o (lawDigits (k : Int) s w)) ∧ rv s (o, w, t) (rowOf o (lawDigits (k : Int) s w)) = getI t k := by
  have hs := tb.hs
  refine ⟨rowOf_row (by omega) (digits_in (by omega) _ _) o, ?_⟩
  rw [rv_rowOf (digits_len ..), idx_digits (by omega) (by omega) (by have := tb.hl; omega), Int.toNat_natCast]
def igF (s : Int) (t : List Int) : Bool := decide (t = rep s.toNat (t.take (t.length / s.toNat)))
def igL (s : Int) (t : List Int) : Bool := decide (t = (List.range t.length).map fun (k : Nat) => getI t (k - k % s.toNat))
def stpI (t : List Int) (c : Nat) : List Int := (List.range (t.length / c)).map fun (k : Nat) => getI t (k * c)
def st1 (s : Int) (m : MS) : MS := if 1 < m.2.1 ∧ igF s m.2.2 = true then (m.1 + 1, m.2.1 - 1, m.2.2.take (m.2.2.length / s.toNat)) else m
def st2 (s : Int) (m : MS) : MS := if 1 < m.2.1 ∧ igL s m.2.2 = true then (m.1, m.2.1 - 1, stpI m.2.2 s.toNat) else m
theorem Tb.st1 {v : Nat} (tb : Tb s (v + 1) t) (hv : 1 ≤ v) : Tb s v (t.take (t.length / s.toNat)) := by
  have p := tb.part
  have hs := tb.hs
  have hle : t.length / s.toNat ≤ t.length := Nat.div_le_self ..
  refine ⟨tb.hs, hv, ?_, ?_, tb.hc.take _⟩
  · rw [List.length_take, Nat.min_eq_left hle]; exact p.1
  · rw [List.length_take]; have := tb.hm; omega
theorem getI_take {l : List Int} {n i : Nat} (h : i < n) : getI (l.take n) i = getI l i := by
  unfold getI
  rw [List.getD_eq_getElem?_getD, List.getD_eq_getElem?_getD, List.getElem?_take_of_lt h]
theorem igF_get (tb : Tb s w t) (h : igF s t = true) {k : Nat} (hk : k < t.length) {v : Nat} (hw : w = v + 1) : getI t k = getI t (k % (t.length / s.toNat)) := by
  subst hw
  have p := tb.part
  have e := of_decide_eq_true h
  have hle : t.length / s.toNat ≤ t.length := Nat.div_le_self ..
  have hlt : (t.take (t.length / s.toNat)).length = t.length / s.toNat := by rw [List.length_take, Nat.min_eq_left hle]
  have g := flat_get (u := t.take (t.length / s.toNat)) (by rw [hlt]; exact p.2.2) s.toNat k (by rw [hlt, ← p.2.1]; exact hk)
  have e2 : (List.replicate s.toNat (t.take (t.length / s.toNat))).flatten = t := e.symm
  rw [e2, hlt, List.getElem?_take_of_lt (Nat.mod_lt _ p.2.2)] at g
  unfold getI
  rw [List.getD_eq_getElem?_getD, List.getD_eq_getElem?_getD, g]
theorem rv_st1 {v : Nat} (tb : Tb s (v + 1) t) (hg : igF s t = true) {x : Int → Int} (hx : Row s x) : rv s (o + 1, v, t.take (t.length / s.toNat)) x = rv s (o, v + 1, t) x := by
  have p := tb.part
  have hs := tb.hs
  unfold rv
  show getI (t.take (t.length / s.toNat)) (lawIndex (win x (o + 1) v) s).toNat = getI t (lawIndex (win x o (v + 1)) s).toNat
  have b := idx_bound (show 0 < s by omega) _ (win_in hx (o + 1) v)
  have b2 := idx_bound (show 0 < s by omega) _ (win_in hx o (v + 1))
  rw [win_len] at b b2
  have e : lawIndex (win x o (v + 1)) s = x o * s ^ v + lawIndex (win x (o + 1) v) s := by rw [win_cons, idx_cons, win_len]
  have hl := tb.hl
  rw [getI_take (by omega), igF_get tb hg (k := (lawIndex (win x o (v + 1)) s).toNat) (by omega) rfl]
  congr 1
  rw [e]
  have hx0 := hx o
  obtain ⟨a, ha⟩ : ∃ a : Nat, x o = (a : Int) := ⟨(x o).toNat, by omega⟩
  obtain ⟨r, hr⟩ : ∃ r : Nat, lawIndex (win x (o + 1) v) s = (r : Int) := ⟨(lawIndex (win x (o + 1) v) s).toNat, by omega⟩
  rw [ha, hr, ← p.1, Int.toNat_natCast, show ((a : Int) * ((t.length / s.toNat : Nat) : Int) + (r : Int)) = ((a * (t.length / s.toNat) + r : Nat) : Int) by rw [Int.natCast_add, Int.natCast_mul], Int.toNat_natCast]
  rw [Nat.mul_comm, Nat.mul_add_mod]
  exact (Nat.mod_eq_of_lt (by omega)).symm
theorem stpI_get {c k : Nat} (hk : k < t.length / c) : getI (stpI t c) k = getI t (k * c) := by
  unfold stpI
  exact getI_of (by rw [List.getElem?_map, List.getElem?_range hk]; rfl)
theorem Tb.st2 {v : Nat} (tb : Tb s (v + 1) t) (hv : 1 ≤ v) : Tb s v (stpI t s.toNat) := by
  have p := tb.part
  have hs := tb.hs
  have hle : t.length / s.toNat ≤ t.length := Nat.div_le_self ..
  have hl : (stpI t s.toNat).length = t.length / s.toNat := by unfold stpI; rw [List.length_map, List.length_range]
  refine ⟨tb.hs, hv, by rw [hl]; exact p.1, by rw [hl]; have := tb.hm; omega, ?_⟩
  refine inR_rangeMap fun k hk => getI_in tb.hc ?_
  have : k * s.toNat < (t.length / s.toNat) * s.toNat := Nat.mul_lt_mul_of_pos_right hk (by omega)
  rw [Nat.mul_comm (t.length / s.toNat), ← p.2.1] at this
  exact this
theorem igL_get (h : igL s t = true) {k : Nat} (hk : k < t.length) : getI t k = getI t (k - k % s.toNat) := by
  have e := of_decide_eq_true h
  have g : t[k]? = some (getI t (k - k % s.toNat)) := by
    have : ((List.range t.length).map fun (k : Nat) => getI t (k - k % s.toNat))[k]? = some (getI t (k - k % s.toNat)) := by rw [List.getElem?_map, List.getElem?_range hk]; rfl
    rw [← e] at this
    exact this
  exact getI_of g
theorem rv_st2 {v : Nat} (tb : Tb s (v + 1) t) (hg : igL s t = true) {x : Int → Int} (hx : Row s x) : rv s (o, v, stpI t s.toNat) x = rv s (o, v + 1, t) x := by
  have p := tb.part
  have hs := tb.hs
  have hS := tb.S
  unfold rv
  show getI (stpI t s.toNat) (lawIndex (win x o v) s).toNat = getI t (lawIndex (win x o (v + 1)) s).toNat
  have b := idx_bound (show 0 < s by omega) _ (win_in hx o v)
  have b2 := idx_bound (show 0 < s by omega) _ (win_in hx o (v + 1))
  rw [win_len] at b b2
  have e : lawIndex (win x o (v + 1)) s = lawIndex (win x o v) s * s + x (o + (v : Int)) := by rw [win_snoc, idx_snoc]
  have hl := tb.hl
  rw [stpI_get (by omega), igL_get hg (k := (lawIndex (win x o (v + 1)) s).toNat) (by omega)]
  congr 1
  rw [e]
  have hx0 := hx (o + (v : Int))
  obtain ⟨a, ha⟩ : ∃ a : Nat, x (o + (v : Int)) = (a : Int) := ⟨(x (o + (v : Int))).toNat, by omega⟩
  obtain ⟨r, hr⟩ : ∃ r : Nat, lawIndex (win x o v) s = (r : Int) := ⟨(lawIndex (win x o v) s).toNat, by omega⟩
  have e3 : (r : Int) * s + (a : Int) = ((r * s.toNat + a : Nat) : Int) := by rw [Int.natCast_add, Int.natCast_mul, hS]
  rw [ha, hr, Int.toNat_natCast, e3, Int.toNat_natCast]
  have e4 : (r * s.toNat + a) % s.toNat = a := by
    rw [Nat.mul_comm, Nat.mul_add_mod]
    exact Nat.mod_eq_of_lt (by omega)
  rw [e4]; omega

/-! ## what a map depends on -/
def Dep (s : Int) (f : (Int → Int) → Int) (p : Int) : Prop := ∃ x y, Row s x ∧ Row s y ∧ (∀ i, i ≠ p → x i = y i) ∧ f x ≠ f y
theorem Dep.congr {f g : (Int → Int) → Int} {p : Int} (h : Dep s f p) (e : ∀ x, Row s x → f x = g x) : Dep s g p := by
  obtain ⟨x, y, h1, h2, h3, h4⟩ := h
  exact ⟨x, y, h1, h2, h3, by rw [← e x h1, ← e y h2]; exact h4⟩
theorem nodep {p : Int} (h : p < o ∨ o + (w : Int) ≤ p) : ¬ Dep s (rv s (o, w, t)) p := fun ⟨x, y, h1, h2, h3, h4⟩ => h4 (by
  unfold rv
  rw [win_congr (x := x) (y := y) (o := (o, w, t).1) fun i a b => h3 i (by
    have a : o ≤ i := a
    have b : i < o + (w : Int) := b
    omega)])
theorem nodep_first {v : Nat} (tb : Tb s (v + 1) t) (hg : igF s t = true) : ¬ Dep s (rv s (o, v + 1, t)) o := fun h =>
  nodep (o := o + 1) (w := v) (t := t.take (t.length / s.toNat)) (.inl (by omega)) (h.congr fun x hx => (rv_st1 tb hg hx).symm)
theorem dep_first {v : Nat} (tb : Tb s (v + 1) t) (hg : ¬ igF s t = true) : Dep s (rv s (o, v + 1, t)) o := by
  refine Classical.byContradiction fun hn => hg ?_
  have p := tb.part
  have hs := tb.hs
  have hl := tb.hl
  have hle : t.length / s.toNat ≤ t.length := Nat.div_le_self ..
  have hlt : (t.take (t.length / s.toNat)).length = t.length / s.toNat := by rw [List.length_take, Nat.min_eq_left hle]
  refine decide_eq_true (List.ext_getElem? fun k => ?_)
  by_cases hk : k < t.length
  · have g := flat_get (u := t.take (t.length / s.toNat)) (by rw [hlt]; exact p.2.2) s.toNat k (by rw [hlt, ← p.2.1]; exact hk)
    unfold rep
    rw [g, hlt, List.getElem?_take_of_lt (Nat.mod_lt _ p.2.2), getI_at hk, getI_at (Nat.lt_of_lt_of_le (Nat.mod_lt _ p.2.2) hle)]
    have hd := digits_in (show 0 < s by omega) (k : Int) (v + 1)
    have hdl := digits_len (k : Int) s (v + 1)
    have hdi := idx_digits (show 0 < s by omega) (k := (k : Int)) (w := v + 1) (by omega) (by omega)
    generalize lawDigits (k : Int) s (v + 1) = cs at hd hdl hdi
    cases cs with
    | nil => cases hdl
    | cons c r =>
      have hrl : r.length = v := by simpa using hdl
      have hr : InR s r := fun z hz => hd z (List.mem_cons_of_mem _ hz)
      have hc := hd c List.mem_cons_self
      have b := idx_bound (show 0 < s by omega) r hr
      rw [idx_cons, hrl] at hdi
      rw [hrl] at b
      have h0 : InR s (0 :: r) := fun z hz => (List.mem_cons.mp hz).elim (fun e => by omega) (hr z)
      have v1 := rv_rowOf (s := s) (o := o) (w := v + 1) (t := t) (cs := c :: r) (by rw [List.length_cons, hrl])
      have v2 := rv_rowOf (s := s) (o := o) (w := v + 1) (t := t) (cs := 0 :: r) (by rw [List.length_cons, hrl])
      have e : rv s (o, v + 1, t) (rowOf o (c :: r)) = rv s (o, v + 1, t) (rowOf o (0 :: r)) := Classical.byContradiction fun hne => hn ⟨_, _, rowOf_row (by omega) hd o, rowOf_row (by omega) h0 o, fun i hi => by
        unfold rowOf
        show (if o ≤ i ∧ i < o + ((c :: r).length : Int) then _ else _) = (if o ≤ i ∧ i < o + ((0 :: r).length : Int) then _ else _)
        rw [List.length_cons, List.length_cons]
        split
        · obtain ⟨n, hn⟩ : ∃ n : Nat, (i - o).toNat = n + 1 := ⟨(i - o).toNat - 1, by omega⟩
          rw [hn]; rfl
        · rfl, hne⟩
      rw [v1, v2, idx_cons, idx_cons, hrl, hdi, Int.zero_mul, Int.zero_add, Int.toNat_natCast] at e
      rw [e]
      congr 2
      obtain ⟨a, ha⟩ : ∃ a : Nat, c = (a : Int) := ⟨c.toNat, by omega⟩
      obtain ⟨q, hq⟩ : ∃ q : Nat, lawIndex r s = (q : Int) := ⟨(lawIndex r s).toNat, by omega⟩
      rw [ha, hq, ← p.1] at hdi
      rw [hq, Int.toNat_natCast]
      have hk2 : a * (t.length / s.toNat) + q = k := by
        have : ((a * (t.length / s.toNat) + q : Nat) : Int) = (k : Int) := by rw [Int.natCast_add, Int.natCast_mul]; exact hdi
        exact Int.ofNat.inj this
      rw [← hk2, Nat.mul_comm, Nat.mul_add_mod]
      exact (Nat.mod_eq_of_lt (by omega)).symm
  · rw [List.getElem?_eq_none (by omega), List.getElem?_eq_none (by rw [rep_len, hlt, ← p.2.1]; omega)]
theorem dep_last {v : Nat} (tb : Tb s (v + 1) t) (hg : ¬ igL s t = true) : Dep s (rv s (o, v + 1, t)) (o + (v : Int)) := by
  refine Classical.byContradiction fun hn => hg ?_
  have hs := tb.hs
  have hl := tb.hl
  have hS := tb.S
  refine decide_eq_true (List.ext_getElem? fun k => ?_)
  by_cases hk : k < t.length
  · rw [List.getElem?_map, List.getElem?_range hk, getI_at hk]
    show some (getI t k) = some (getI t (k - k % s.toNat))
    have hd := digits_in (show 0 < s by omega) (k : Int) (v + 1)
    have hdl := digits_len (k : Int) s (v + 1)
    have hdi := idx_digits (show 0 < s by omega) (k := (k : Int)) (w := v + 1) (by omega) (by omega)
    generalize lawDigits (k : Int) s (v + 1) = cs at hd hdl hdi
    have hcs : cs = cs.take v ++ [getI cs v] := by
      have h1 := List.take_append_drop v cs
      have h2 : cs.drop v = [getI cs v] := by
        refine List.ext_getElem? fun i => ?_
        rw [List.getElem?_drop]
        cases i with
        | zero => rw [Nat.add_zero, getI_at (by omega)]; rfl
        | succ i => rw [List.getElem?_eq_none (by omega)]; rfl
      rw [h2] at h1
      exact h1.symm
    have hr : InR s (cs.take v) := hd.take v
    have hrl : (cs.take v).length = v := by rw [List.length_take]; omega
    have hc := getI_in hd (i := v) (by omega)
    generalize getI cs v = c at hcs hc
    generalize cs.take v = r at hcs hr hrl
    subst hcs
    have b := idx_bound (show 0 < s by omega) r hr
    rw [idx_snoc] at hdi
    have h0 : InR s (r ++ [0]) := fun z hz => (List.mem_append.mp hz).elim (hr z) fun e => by rw [List.mem_singleton.mp e]; omega
    have hz0 : (r ++ [(0 : Int)]).length = v + 1 := by rw [List.length_append, hrl]; rfl
    have v1 := rv_rowOf (s := s) (o := o) (w := v + 1) (t := t) (cs := r ++ [c]) hdl
    have v2 := rv_rowOf (s := s) (o := o) (w := v + 1) (t := t) (cs := r ++ [0]) (by rw [List.length_append, hrl]; rfl)
    have e : rv s (o, v + 1, t) (rowOf o (r ++ [c])) = rv s (o, v + 1, t) (rowOf o (r ++ [0])) := Classical.byContradiction fun hne => hn ⟨_, _, rowOf_row (by omega) hd o, rowOf_row (by omega) h0 o, fun i hi => by
      unfold rowOf
      rw [hdl, hz0]
      split
      · unfold getI
        rw [List.getD_eq_getElem?_getD, List.getD_eq_getElem?_getD, List.getElem?_append_left (by omega), List.getElem?_append_left (by omega)]
      · rfl, hne⟩
    rw [v1, v2, idx_snoc, idx_snoc, hdi, Int.toNat_natCast] at e
    rw [e]
    congr 2
    obtain ⟨a, ha⟩ : ∃ a : Nat, c = (a : Int) := ⟨c.toNat, by omega⟩
    obtain ⟨q, hq⟩ : ∃ q : Nat, lawIndex r s = (q : Int) := ⟨(lawIndex r s).toNat, by omega⟩
    rw [ha, hq] at hdi
    rw [hq, Int.add_zero]
    have e3 : (q : Int) * s = ((q * s.toNat : Nat) : Int) := by rw [Int.natCast_mul, hS]
    have hk2 : q * s.toNat + a = k := by
      rw [e3] at hdi
      omega
    rw [e3, Int.toNat_natCast, ← hk2, Nat.mul_comm q, Nat.mul_add_mod, Nat.mod_eq_of_lt (by omega)]
    omega
  · rw [List.getElem?_eq_none (by omega), List.getElem?_eq_none (by rw [List.length_map, List.length_range]; omega)]
theorem dep_one (tb : Tb s 1 t) (hg : t ≠ List.replicate s.toNat (getI t 0)) : Dep s (rv s (o, 1, t)) o := by
  refine Classical.byContradiction fun hn => hg ?_
  have hs := tb.hs
  have hl := tb.hl
  rw [Int.pow_succ, Int.pow_zero, Int.one_mul] at hl
  refine List.ext_getElem? fun k => ?_
  by_cases hk : k < t.length
  · rw [getI_at hk, List.getElem?_replicate, if_pos (by omega)]
    have h1 : InR s [(k : Int)] := fun z hz => by rw [List.mem_singleton.mp hz]; omega
    have h0 : InR s [(0 : Int)] := fun z hz => by rw [List.mem_singleton.mp hz]; omega
    have v1 := rv_rowOf (s := s) (o := o) (w := 1) (t := t) (cs := [(k : Int)]) rfl
    have v2 := rv_rowOf (s := s) (o := o) (w := 1) (t := t) (cs := [(0 : Int)]) rfl
    have e : rv s (o, 1, t) (rowOf o [(k : Int)]) = rv s (o, 1, t) (rowOf o [(0 : Int)]) := Classical.byContradiction fun hne => hn ⟨_, _, rowOf_row (by omega) h1 o, rowOf_row (by omega) h0 o, fun i hi => by
      unfold rowOf
      show (if o ≤ i ∧ i < o + 1 then _ else _) = (if o ≤ i ∧ i < o + 1 then _ else _)
      rw [if_neg (by omega), if_neg (by omega)], hne⟩
    have i1 : lawIndex [(k : Int)] s = (k : Int) := by show 0 * s + (k : Int) = _; omega
    have i0 : lawIndex [(0 : Int)] s = 0 := by show 0 * s + 0 = _; omega
    rw [v1, v2, i1, i0, Int.toNat_natCast] at e
    rw [e]; rfl
  · rw [List.getElem?_eq_none (by omega), List.getElem?_eq_none (by rw [List.length_replicate]; omega)]
end
/-! ## the reduced map is one -/
structure Fin (s : Int) (m : MS) : Prop where
  f : 1 < m.2.1 → ¬ igF s m.2.2 = true
  l : 1 < m.2.1 → ¬ igL s m.2.2 = true
  c : m.2.1 = 1 → m.2.2 = List.replicate s.toNat (getI m.2.2 0) → m.1 = 0
theorem fin_ends {s : Int} {m : MS} (tb : Tb s m.2.1 m.2.2) (h : Fin s m) : (m.2.1 = 1 ∧ m.1 = 0 ∧ m.2.2 = List.replicate s.toNat (getI m.2.2 0) ∧ ∀ p, ¬ Dep s (rv s m) p) ∨ (Dep s (rv s m) m.1 ∧ Dep s (rv s m) (m.1 + (m.2.1 : Int) - 1)) := by
  obtain ⟨o, w, t⟩ := m
  have tb : Tb s w t := tb
  have hw := tb.hw
  by_cases h1 : 1 < w
  · obtain ⟨v, rfl⟩ : ∃ v, w = v + 1 := ⟨w - 1, by omega⟩
    refine .inr ⟨dep_first tb (h.f h1), ?_⟩
    have := dep_last (o := o) tb (h.l h1)
    show Dep s _ (o + ((v + 1 : Nat) : Int) - 1)
    rw [show o + ((v + 1 : Nat) : Int) - 1 = o + (v : Int) by omega]
    exact this
  · have : w = 1 := by omega
    subst this
    by_cases hc : t = List.replicate s.toNat (getI t 0)
    · refine .inl ⟨rfl, h.c rfl hc, hc, fun p ⟨x, y, h1, h2, _, h4⟩ => h4 ?_⟩
      have key : ∀ z, Row s z → rv s (o, 1, t) z = getI t 0 := fun z hz => by
        unfold rv
        show getI t (lawIndex (win z o 1) s).toNat = _
        have b := idx_bound (show 0 < s by have := tb.hs; omega) _ (win_in hz o 1)
        rw [win_len] at b
        have hl := tb.hl
        have hlt : (lawIndex (win z o 1) s).toNat < t.length := by omega
        generalize (lawIndex (win z o 1) s).toNat = k at hlt
        have g := getI_at hlt
        have hk : k < s.toNat := by
          rw [Int.pow_succ, Int.pow_zero, Int.one_mul] at hl
          omega
        have g2 : t[k]? = some (getI t 0) := by
          have : (List.replicate s.toNat (getI t 0))[k]? = some (getI t 0) := by rw [List.getElem?_replicate, if_pos hk]
          rw [← hc] at this
          exact this
        rw [g] at g2
        exact Option.some.inj g2
      rw [key x h1, key y h2]
    · have d := dep_one (o := o) tb hc
      refine .inr ⟨d, ?_⟩
      show Dep s _ (o + ((1 : Nat) : Int) - 1)
      rw [show o + ((1 : Nat) : Int) - 1 = o by omega]
      exact d
theorem canon {s : Int} {m n : MS} (tm : Tb s m.2.1 m.2.2) (tn : Tb s n.2.1 n.2.2) (hm : Fin s m) (hn : Fin s n) (e : ∀ x, Row s x → rv s m x = rv s n x) : m = n := by
  have e' : ∀ x, Row s x → rv s n x = rv s m x := fun x hx => (e x hx).symm
  have key : ∀ {m n : MS}, Tb s m.2.1 m.2.2 → Tb s n.2.1 n.2.2 → m.1 = n.1 → m.2.1 = n.2.1 → (∀ x, Row s x → rv s m x = rv s n x) → m = n := by
    rintro ⟨o, w, t⟩ ⟨o', w', t'⟩ t1 t2 h1 h2 e
    have h1 : o = o' := h1
    have h2 : w = w' := h2
    subst h1 h2
    have t1 : Tb s w t := t1
    have t2 : Tb s w t' := t2
    have hl : t.length = t'.length := Int.ofNat.inj (t1.hl.trans t2.hl.symm)
    have : t = t' := List.ext_getElem? fun k => by
      by_cases hk : k < t.length
      · rw [getI_at hk, getI_at (hl ▸ hk)]
        obtain ⟨r, g1⟩ := t1.get hk o
        obtain ⟨_, g2⟩ := t2.get (hl ▸ hk) o
        have := e _ r
        rw [g1, g2] at this
        rw [this]
      · rw [List.getElem?_eq_none (by omega), List.getElem?_eq_none (by omega)]
    rw [this]
  have wm := tm.hw
  have wn := tn.hw
  have out : ∀ (n : MS) (p : Int), Dep s (rv s n) p → n.1 ≤ p ∧ p < n.1 + (n.2.1 : Int) := fun n p d => by
    refine Classical.byContradiction fun z => nodep (s := s) (o := n.1) (w := n.2.1) (t := n.2.2) (p := p) ?_ d
    omega
  rcases fin_ends tm hm with ⟨a1, a2, a3, a4⟩ | ⟨a1, a2⟩
  · rcases fin_ends tn hn with ⟨b1, b2, b3, b4⟩ | ⟨b1, b2⟩
    · exact key tm tn (a2.trans b2.symm) (a1.trans b1.symm) e
    · exact absurd (b1.congr e') (a4 _)
  · rcases fin_ends tn hn with ⟨b1, b2, b3, b4⟩ | ⟨b1, b2⟩
    · exact absurd (a1.congr e) (b4 _)
    · have c1 := out n _ (a1.congr e)
      have c2 := out n _ (a2.congr e)
      have c3 := out m _ (b1.congr e')
      have c4 := out m _ (b2.congr e')
      exact key tm tn (by omega) (by omega) e
end Ed

namespace Ed
open PySem PySem.Spec PyProof.Rows L2

/-! ## xs[::k] -/
def stp {α : Type} (xs : List α) (c : Nat) : List α := (List.range ((xs.length + c - 1) / c)).filterMap fun k => xs[c * k]?
def tStp (K : PySem.W.Frag) (te : TE) (tk : TO) : TE := fun σ H Q => te σ H fun x H1 => tk σ H1 fun y H2 => ∃ (a : Addr) (xs : List V) (c : Int), x = .ref a ∧ y = some c ∧ 0 < c ∧ SqL K H2 a xs ∧ ∀ p, H2 p = none → Q (.ref p) (upd H2 p (.lst (stp xs c.toNat)))
theorem Vals.pick {xs : List V} {us : List Value} (r : Vals xs us) : ∀ l : List Nat, Vals (l.filterMap fun k => xs[k]?) (l.filterMap fun k => us[k]?)
  | [] => .nil
  | k :: l => by
    rw [List.filterMap_cons, List.filterMap_cons]
    cases e : xs[k]? with
    | none => rw [r.none_of e]; exact Vals.pick r l
    | some x =>
      obtain ⟨u, hu, h⟩ := r.get e
      rw [hu]
      exact .cons h (Vals.pick r l)
theorem stp_pick {α : Type} (xs : List α) (c : Nat) : stp xs c = ((List.range ((xs.length + c - 1) / c)).map fun k => c * k).filterMap fun k => xs[k]? := by
  unfold stp
  rw [List.filterMap_map]; rfl
theorem stp_len {α : Type} (xs : List α) (c : Nat) : (stp xs c).length ≤ xs.length := by
  unfold stp
  refine Nat.le_trans (List.length_filterMap_le ..) ?_
  rw [List.length_range]
  rcases Nat.eq_zero_or_pos c with z | z
  · subst z; rw [Nat.div_zero]; exact Nat.zero_le _
  · rcases Nat.eq_zero_or_pos xs.length with y | y
    · rw [y, Nat.zero_add]; rw [Nat.div_eq_of_lt (by omega)]; exact Nat.zero_le _
    · refine Nat.div_le_of_le_mul ?_
      have : c * xs.length ≥ c + xs.length - 1 := by
        obtain ⟨a, rfl⟩ : ∃ a, c = a + 1 := ⟨c - 1, by omega⟩
        obtain ⟨b, hb⟩ : ∃ b, xs.length = b + 1 := ⟨xs.length - 1, by omega⟩
        rw [hb, Nat.add_mul, Nat.mul_add]
        omega
      omega
theorem pick_stp (its : List Value) (c : Int) (hc : 0 < c) : slicePick its.toArray none none (some c) = (stp its c.toNat).toArray := by
  unfold slicePick sliceBounds
  rw [stp_pick]
  congr 1
  show (sliceRange (if c > 0 then 0 else _) (if c > 0 then _ else -1) c).filterMap _ = _
  rw [if_pos hc, if_pos hc, List.size_toArray]
  unfold sliceRange
  rw [if_pos hc]
  obtain ⟨n, hn⟩ : ∃ n : Nat, c = (n : Int) := ⟨c.toNat, by omega⟩
  subst hn
  rw [Int.toNat_natCast]
  have e : (if (0 : Int) < (its.length : Int) then ((its.length : Int) - 0 + (n : Int) - 1) / (n : Int) else 0).toNat = (its.length + n - 1) / n := by
    split
    · rw [show (its.length : Int) - 0 + (n : Int) - 1 = ((its.length + n - 1 : Nat) : Int) by omega, ← Int.natCast_ediv, Int.toNat_natCast]
    · have : its.length = 0 := by omega
      rw [this, Nat.zero_add, Nat.div_eq_of_lt (by omega)]; rfl
  show (List.map (fun (k : Nat) => ((0 : Int) + (n : Int) * (k : Int)).toNat) (List.range (if (0 : Int) < (its.length : Int) then ((its.length : Int) - 0 + (n : Int) - 1) / (n : Int) else 0).toNat)).filterMap _ = _
  rw [e]
  have f : ((List.range ((its.length + n - 1) / n)).map fun (k : Nat) => ((0 : Int) + (n : Int) * (k : Int)).toNat) = (List.range ((its.length + n - 1) / n)).map fun k => n * k := List.map_congr_left fun k _ => by
    rw [Int.zero_add, ← Int.natCast_mul, Int.toNat_natCast]
  rw [f]
  simp only [List.getElem?_toArray]
section
variable {X : Cx} {K : PySem.W.Frag} {ρ : List Sl} {te : TE} {tk : TO}
theorem pe_slStep {e st : Expr} {p3 pos : Pos} (he : PE X e te) (hst : PO X (some st) tk) : PE X (.Subscript e (.Slice none none (some st) p3) pos) (tStp X.K te tk) := by
  refine ⟨fun pins s σ H Q I h => ?_⟩
  refine Subscript_ (thn (he.run pins s σ H _ I h) fun v s1 ⟨x, H1, I1, r1, q1⟩ => ?_)
  refine wpAny_Slice (thn (po_none.run pins s1 σ H1 (fun o H2 => o = none ∧ H2 = H1) I1 ⟨rfl, rfl⟩) fun vl s2 ⟨l, H2, I2, pl, el, e2⟩ => ?_)
  subst el e2
  refine thn (po_none.run pins s2 σ H2 (fun o H3 => o = none ∧ H3 = H2) I2 ⟨rfl, rfl⟩) fun vu s3 ⟨u, H3, I3, pu, eu, e3⟩ => ?_
  subst eu e3
  refine thn (hst.run pins s3 σ H3 _ I3 q1) fun vs s4 ⟨o, H4, I4, ps, a, xs, c, ex, eo, hc, hx, q⟩ => ?_
  subst ex eo
  cases r1
  have I5 : Inv X pins σ H4 { s4 with heap := s4.heap.push { cls := .type "slice", data := .fields #[vl, vu, vs] } } := I4.kept (t' := s4.toks) fun b ob q => Heap.get?_push_of_some _ q
  obtain ⟨its, r, ht, hz⟩ := I5.list hx
  have hlen := r.length
  show wpAny (model X.prog X.w) X.A (subscriptTail e (.Slice none none (some st) p3) (.ref a) (.ref s4.heap.objs.size)) (EP X pins σ Q) X.xe { s4 with heap := s4.heap.push { cls := .type "slice", data := .fields #[vl, vu, vs] } }
  refine tail_any (ops := [.ref a, .ref s4.heap.objs.size]) ht.isList.typeIs (PySem.slot_list_getitem.lookup) ?_ (by with_unfolding_all rfl)
  refine wpAny_getItem_list_slice ht.isList (Heap.IsSliceOf.new _ vl vu vs) pl pu ps (by intro z; cases z; omega) ?_ (by rw [List.size_toArray]; omega)
  rw [pick_stp _ _ hc]
  refine ⟨.ref _, _, I5.laid (t' := s4.toks) (o := .lst (stp xs c.toNat)) (fun b ob q => Heap.get?_push_of_some _ q) (Nat.le_refl _) ?_, rfl, q _ (I5.hok.fresh (Nat.le_refl _))⟩
  refine ⟨Nat.le_trans (stp_len _ _) hz, stp its c.toNat, 0, ?_, Heap.get?_push_size _ rfl⟩
  rw [stp_pick, stp_pick, hlen]
  exact Vals.pick r _

theorem DvAll.getN {H : Hp} {vs : List V} {ds : List D} (h : DvAll H vs ds) (k : Nat) : (vs[k]? = none ∧ ds[k]? = none) ∨ ∃ v d, vs[k]? = some v ∧ ds[k]? = some d ∧ Dv H v d := by
  cases e : vs[k]? with
  | none => 
    refine .inl ⟨rfl, ?_⟩
    rw [List.getElem?_eq_none_iff] at e ⊢
    rw [← h.len]; exact e
  | some v =>
    obtain ⟨d, h1, h2⟩ := h.getV e
    exact .inr ⟨v, d, rfl, h1, h2⟩
theorem DvAll.pick {H : Hp} {vs : List V} {ds : List D} (h : DvAll H vs ds) : ∀ l : List Nat, DvAll H (l.filterMap fun k => vs[k]?) (l.filterMap fun k => ds[k]?)
  | [] => .nil
  | k :: l => by
    rw [List.filterMap_cons, List.filterMap_cons]
    rcases h.getN k with ⟨e1, e2⟩ | ⟨v, d, e1, e2, r⟩
    · rw [e1, e2]; exact h.pick l
    · rw [e1, e2]; exact .cons r (h.pick l)
theorem ev_stp {ds : List D} {c : Int} (ha : EvD K te ρ (.list ds)) (hb : EvO K tk ρ (some c)) (hc : 0 < c) : EvR K (tStp K te tk) ρ (.ow (stp ds c.toNat)) := fun F0 H0 F H σ cf Q q =>
  ha F0 H0 F H σ cf _ fun v F1 H1 e1 g => hb F0 H0 F1 H1 σ (cf.up e1) _ fun F2 H2 e2 => by
    have g' : Dv F1 v (.list ds) := g
    cases g' with
    | lst hs hx =>
      rename_i a xs
      refine ⟨a, xs, c, rfl, rfl, hc, .inl (.inl ((e1.trans e2).fh _ _ (e2.ff _ _ hs))), fun p hp => q _ F2 _ ((e1.trans e2).trans (.own (e1.trans e2).fh hp)) ⟨p, _, rfl, ⟨(e1.trans e2).hh.back hp, (e1.trans e2).fh.back hp⟩, upd_same, ?_⟩⟩
      rw [stp_pick, stp_pick, hx.len]
      exact (hx.up e2.ff).pick _
end
theorem stp_even {t : List Int} {c n : Nat} (hc : 0 < c) (h : t.length = c * n) : stp t c = stpI t c := by
  unfold stp stpI
  have e1 : (t.length + c - 1) / c = n := by
    rw [h, show c * n + c - 1 = c * n + (c - 1) by omega, Nat.mul_add_div hc, Nat.div_eq_of_lt (by omega), Nat.add_zero]
  have e2 : t.length / c = n := by rw [h]; exact Nat.mul_div_cancel_left n hc
  rw [e1, e2]
  have key : ∀ m, m ≤ n → (List.range m).filterMap (fun k => t[c * k]?) = (List.range m).map fun k => getI t (k * c) := by
    intro m
    induction m with
    | zero => intro _; rfl
    | succ m ih =>
      intro hm
      rw [List.range_succ, List.filterMap_append, List.map_append, ih (by omega)]
      have hlt : c * m < t.length := by rw [h]; exact Nat.mul_lt_mul_of_pos_left (by omega) hc
      congr 1
      rw [List.filterMap_cons, getI_at hlt]
      show [getI t (c * m)] = [getI t (m * c)]
      rw [Nat.mul_comm]
  exact key n (Nat.le_refl _)
theorem iL_stp (t : List Int) (c : Nat) : stp (iL t) c = iL (stp t c) := by
  unfold stp iL
  rw [List.map_filterMap, List.length_map]
  simp only [List.getElem?_map]
section
variable {K : PySem.W.Frag}
theorem rc_all {bs : List Bool} : RC K (rAll K) [.fz (.list (bs.map PyData.bool))] (.fz (.bool (bs.all id))) := fun vs F H fh g Q q => by
  obtain ⟨v, rfl, h⟩ := g.one
  cases h with
  | lst hs ha =>
    rename_i a xs
    have e : ∀ {bs : List Bool} {xs : List V}, DvAll F xs (bs.map PyData.bool) → xs = bs.map V.bl := fun {bs} => by
      induction bs with
      | nil => intro xs h; cases h; rfl
      | cons b r ih =>
        intro xs h
        cases h with
        | cons h1 h2 =>
          cases h1
          rw [ih h2]; rfl
    rw [e ha] at hs
    exact ⟨a, bs, rfl, .inl (.inl (fh _ _ hs)), q _ F H (.refl fh) (.bl _)⟩
theorem rc_min2 {i j : Int} : RC K (fun xs H Q => ∃ i j, xs = [.int i, .int j] ∧ Q (.int (if j < i then j else i)) H) [.fz (.int i), .fz (.int j)] (.fz (.int (min i j))) := fun vs F H fh g Q q => by
  obtain ⟨v, w, rfl, h1, h2⟩ := g.two
  rw [h1.int_eq, h2.int_eq]
  refine ⟨i, j, rfl, q _ F H (.refl fh) ?_⟩
  have : (if j < i then j else i) = min i j := by split <;> omega
  rw [this]; exact .int _
theorem rc_max2 {i j : Int} : RC K (fun xs H Q => ∃ i j, xs = [.int i, .int j] ∧ Q (.int (if j > i then j else i)) H) [.fz (.int i), .fz (.int j)] (.fz (.int (max i j))) := fun vs F H fh g Q q => by
  obtain ⟨v, w, rfl, h1, h2⟩ := g.two
  rw [h1.int_eq, h2.int_eq]
  refine ⟨i, j, rfl, q _ F H (.refl fh) ?_⟩
  have : (if j > i then j else i) = max i j := by split <;> omega
  rw [this]; exact .int _
end

/-! ## the mirror of the reduced form -/
def itA {α : Type} (f : α → α) : Nat → α → α
  | 0, x => x
  | n + 1, x => itA f n (f x)
theorem itA_add {α : Type} (f : α → α) : ∀ m n x, itA f (m + n) x = itA f n (itA f m x)
  | 0, n, x => by rw [Nat.zero_add]; rfl
  | m + 1, n, x => by rw [show m + 1 + n = (m + n) + 1 by omega]; exact itA_add f m n (f x)
theorem itA_snoc {α : Type} (f : α → α) (n : Nat) (x : α) : itA f (n + 1) x = f (itA f n x) := itA_add f n 1 x
theorem itA_fix {α : Type} {f : α → α} {x : α} (h : f x = x) : ∀ n, itA f n x = x
  | 0 => rfl
  | n + 1 => by show itA f n (f x) = x; rw [h]; exact itA_fix h n
/-- a loop that stops after k turns, told with more turns -/
theorem itA_end {α : Type} {f : α → α} {x y : α} {k n : Nat} (h : itA f k x = y) (hf : f y = y) (hk : k ≤ n) : itA f n x = y := by
  rw [show n = k + (n - k) by omega, itA_add, h, itA_fix hf]
def Tm (s : Int) (m : MS) : Prop := Tb s m.2.1 m.2.2
structure Step (s : Int) (m n : MS) : Prop where
  tb : Tm s n
  rv : ∀ x, Row s x → rv s n x = rv s m x
  le : n.2.1 ≤ m.2.1
theorem Step.refl {s : Int} {m : MS} (h : Tm s m) : Step s m m := ⟨h, fun _ _ => rfl, Nat.le_refl _⟩
theorem Step.trans {s : Int} {m n k : MS} (a : Step s m n) (b : Step s n k) : Step s m k := ⟨b.tb, fun x hx => (b.rv x hx).trans (a.rv x hx), Nat.le_trans b.le a.le⟩
theorem step1 {s : Int} {m : MS} (h : Tm s m) : Step s m (st1 s m) ∧ (st1 s m = m ∨ (st1 s m).2.1 + 1 = m.2.1) ∧ (st1 s m = m → 1 < m.2.1 → ¬ igF s m.2.2 = true) := by
  obtain ⟨o, w, t⟩ := m
  have h : Tb s w t := h
  by_cases hc : 1 < w ∧ igF s t = true
  · have e : st1 s (o, w, t) = (o + 1, w - 1, t.take (t.length / s.toNat)) := if_pos hc
    obtain ⟨v, rfl⟩ : ∃ v, w = v + 1 := ⟨w - 1, by omega⟩
    rw [e]
    refine ⟨⟨h.st1 (by omega), fun x hx => rv_st1 h hc.2 hx, Nat.le_succ v⟩, .inr rfl, fun z => ?_⟩
    have z2 := congrArg (fun m : MS => m.2.1) z
    have z2 : v = v + 1 := z2
    omega
  · have e : st1 s (o, w, t) = (o, w, t) := if_neg hc
    rw [e]
    exact ⟨.refl h, .inl rfl, fun _ h1 h2 => hc ⟨h1, h2⟩⟩
theorem step2 {s : Int} {m : MS} (h : Tm s m) : Step s m (st2 s m) ∧ (st2 s m = m ∨ (st2 s m).2.1 + 1 = m.2.1) ∧ (st2 s m = m → 1 < m.2.1 → ¬ igL s m.2.2 = true) ∧ (st2 s m).1 = m.1 := by
  obtain ⟨o, w, t⟩ := m
  have h : Tb s w t := h
  by_cases hc : 1 < w ∧ igL s t = true
  · have e : st2 s (o, w, t) = (o, w - 1, stpI t s.toNat) := if_pos hc
    obtain ⟨v, rfl⟩ : ∃ v, w = v + 1 := ⟨w - 1, by omega⟩
    rw [e]
    refine ⟨⟨h.st2 (by omega), fun x hx => rv_st2 h hc.2 hx, Nat.le_succ v⟩, .inr rfl, fun z => ?_, rfl⟩
    have z2 := congrArg (fun m : MS => m.2.1) z
    have z2 : v = v + 1 := z2
    omega
  · have e : st2 s (o, w, t) = (o, w, t) := if_neg hc
    rw [e]
    exact ⟨.refl h, .inl rfl, fun _ h1 h2 => hc ⟨h1, h2⟩, rfl⟩
theorem iter1 {s : Int} {m : MS} (h : Tm s m) : ∀ n, Step s m (itA (st1 s) n m) ∧ (st1 s (itA (st1 s) n m) = itA (st1 s) n m ∨ (itA (st1 s) n m).2.1 + n ≤ m.2.1)
  | 0 => ⟨.refl h, .inr (Nat.le_refl _)⟩
  | n + 1 => by
    have ih := iter1 h n
    rw [itA_snoc]
    generalize itA (st1 s) n m = y at ih
    have q := step1 ih.1.tb
    refine ⟨ih.1.trans q.1, ?_⟩
    rcases ih.2 with e | e
    · rw [e]; exact .inl e
    · rcases q.2.1 with z | z
      · rw [z]; exact .inl z
      · exact .inr (by omega)
theorem iter2 {s : Int} {m : MS} (h : Tm s m) : ∀ n, Step s m (itA (st2 s) n m) ∧ (itA (st2 s) n m).1 = m.1 ∧ (st2 s (itA (st2 s) n m) = itA (st2 s) n m ∨ (itA (st2 s) n m).2.1 + n ≤ m.2.1)
  | 0 => ⟨.refl h, rfl, .inr (Nat.le_refl _)⟩
  | n + 1 => by
    have ih := iter2 h n
    rw [itA_snoc]
    generalize itA (st2 s) n m = y at ih
    have q := step2 ih.1.tb
    refine ⟨ih.1.trans q.1, q.2.2.2.trans ih.2.1, ?_⟩
    rcases ih.2.2 with e | e
    · rw [e]; exact .inl e
    · rcases q.2.1 with z | z
      · rw [z]; exact .inl z
      · exact .inr (by omega)
def nar1 (s : Int) (m : MS) : MS := itA (st1 s) 20 m
def nar2 (s : Int) (m : MS) : MS := itA (st2 s) 20 (nar1 s m)
def nar (s : Int) (m : MS) : MS := if (nar2 s m).2.1 = 1 ∧ (nar2 s m).2.2 = List.replicate s.toNat (getI (nar2 s m).2.2 0) then (0, (nar2 s m).2) else nar2 s m
theorem Tb.w12 {s : Int} {w : Nat} {t : List Int} (h : Tb s w t) : w ≤ 12 := by
  refine Classical.byContradiction fun z => ?_
  have hs := h.hs
  have hl := h.hl
  have hm := h.hm
  have p := pow_mono (s := s) (by omega) (show 13 ≤ w by omega)
  have q : (4096 : Int) < s ^ 13 := by
    have : s = 2 ∨ s = 3 ∨ s = 4 := by omega
    rcases this with rfl | rfl | rfl <;> decide
  omega
theorem nar1_ok {s : Int} {m : MS} (h : Tm s m) : Step s m (nar1 s m) ∧ st1 s (nar1 s m) = nar1 s m := by
  have q := iter1 h 20
  have w := Tb.w12 (show Tb s m.2.1 m.2.2 from h)
  refine ⟨q.1, ?_⟩
  rcases q.2 with e | e
  · exact e
  · omega
theorem nar2_ok {s : Int} {m : MS} (h : Tm s m) : Step s m (nar2 s m) ∧ (nar2 s m).1 = (nar1 s m).1 ∧ st2 s (nar2 s m) = nar2 s m := by
  have a := nar1_ok h
  have q := iter2 a.1.tb 20
  have w := Tb.w12 (show Tb s (nar1 s m).2.1 (nar1 s m).2.2 from a.1.tb)
  refine ⟨a.1.trans q.1, q.2.1, ?_⟩
  rcases q.2.2 with e | e
  · exact e
  · have w2 := Tb.hw (show Tb s (itA (st2 s) 20 (nar1 s m)).2.1 (itA (st2 s) 20 (nar1 s m)).2.2 from q.1.tb)
    omega
theorem nar2_le {s : Int} {m : MS} (h : Tm s m) : (nar2 s m).2.1 ≤ (nar1 s m).2.1 := by
  have q := (iter2 (nar1_ok h).1.tb 20).1.le
  unfold nar2
  exact q
theorem rv_const {s o o' : Int} {t : List Int} (tb : Tb s 1 t) (hc : t = List.replicate s.toNat (getI t 0)) {x : Int → Int} (hx : Row s x) : rv s (o, 1, t) x = rv s (o', 1, t) x := by
  have key : ∀ o, rv s (o, 1, t) x = getI t 0 := fun o => by
    unfold rv
    show getI t (lawIndex (win x o 1) s).toNat = _
    have b := idx_bound (show 0 < s by have := tb.hs; omega) _ (win_in hx o 1)
    rw [win_len] at b
    have hl := tb.hl
    have hlt : (lawIndex (win x o 1) s).toNat < t.length := by omega
    generalize (lawIndex (win x o 1) s).toNat = k at hlt
    have g := getI_at hlt
    have hk : k < s.toNat := by
      rw [Int.pow_succ, Int.pow_zero, Int.one_mul] at hl
      omega
    have g2 : t[k]? = some (getI t 0) := by
      have : (List.replicate s.toNat (getI t 0))[k]? = some (getI t 0) := by rw [List.getElem?_replicate, if_pos hk]
      rw [← hc] at this
      exact this
    rw [g] at g2
    exact Option.some.inj g2
  rw [key o, key o']
theorem nar_ok {s : Int} {m : MS} (h : Tm s m) : Step s m (nar s m) ∧ Fin s (nar s m) := by
  have a := nar1_ok h
  have b := nar2_ok h
  have q := (step2 b.1.tb).2.2.1 b.2.2
  have p := (step1 a.1.tb).2.2 a.2
  have hle := nar2_le h
  have rvb : ∀ x, Row s x → rv s (nar1 s m) x = rv s (nar2 s m) x := fun x hx => (a.1.rv x hx).trans (b.1.rv x hx).symm
  have ho := b.2.1
  have tb1 := a.1.tb
  have tb2 := b.1.tb
  have fF : 1 < (nar2 s m).2.1 → ¬ igF s (nar2 s m).2.2 = true := fun h1 h2 => by
    generalize nar1 s m = y at *
    generalize nar2 s m = z at *
    obtain ⟨o, w, t⟩ := y
    obtain ⟨o', w', t'⟩ := z
    have ho : o' = o := ho
    subst ho
    have h1 : 1 < w' := h1
    have hle : w' ≤ w := hle
    have tb1 : Tb s w t := tb1
    have tb2 : Tb s w' t' := tb2
    obtain ⟨v, rfl⟩ : ∃ v, w = v + 1 := ⟨w - 1, by omega⟩
    obtain ⟨v', rfl⟩ : ∃ v, w' = v + 1 := ⟨w' - 1, by omega⟩
    exact nodep_first tb2 h2 ((dep_first tb1 (p (by show 1 < v + 1; omega))).congr rvb)
  unfold nar
  generalize nar1 s m = y at *
  generalize nar2 s m = z at *
  obtain ⟨o, w, t⟩ := z
  have tb2 : Tb s w t := tb2
  by_cases hc : w = 1 ∧ t = List.replicate s.toNat (getI t 0)
  · have e : (if (o, w, t).2.1 = 1 ∧ (o, w, t).2.2 = List.replicate s.toNat (getI (o, w, t).2.2 0) then ((0 : Int), (o, w, t).2) else (o, w, t)) = (0, w, t) := if_pos hc
    rw [e]
    obtain ⟨rfl, hc2⟩ := hc
    exact ⟨⟨tb2, fun x hx => (rv_const tb2 hc2 hx).trans (b.1.rv x hx), b.1.le⟩, ⟨fun z => by have z : 1 < 1 := z; omega, fun z => by have z : 1 < 1 := z; omega, fun _ _ => rfl⟩⟩
  · have e : (if (o, w, t).2.1 = 1 ∧ (o, w, t).2.2 = List.replicate s.toNat (getI (o, w, t).2.2 0) then ((0 : Int), (o, w, t).2) else (o, w, t)) = (o, w, t) := if_neg hc
    rw [e]
    exact ⟨b.1, ⟨fF, q, fun h1 h2 => absurd ⟨h1, h2⟩ hc⟩⟩
/-- two maps are the same exactly if their reduced maps are -/
theorem nar_eq_iff {s : Int} {m n : MS} (hm : Tm s m) (hn : Tm s n) : nar s m = nar s n ↔ ∀ x, Row s x → rv s m x = rv s n x := by
  have a := nar_ok hm
  have b := nar_ok hn
  constructor
  · intro e x hx
    rw [← a.1.rv x hx, e, b.1.rv x hx]
  · intro e
    exact canon a.1.tb b.1.tb a.2 b.2 fun x hx => by rw [a.1.rv x hx, b.1.rv x hx]; exact e x hx
end Ed

namespace Ed
open PySem PySem.Spec PyProof.Rows L2
def msD (s : Int) (m : MS) : D := mapD s m.1 m.2.1 m.2.2
inductive R_ignores_first : List Sl → Res → Prop
  | mk (s : Int) (w : Nat) (t : List Int) (tb : Tb s w t) : R_ignores_first [.fz (.int s), .fz (.list (iL t))] (.val (.fz (.bool (igF s t))))
inductive R_ignores_last : List Sl → Res → Prop
  | mk (s : Int) (w : Nat) (t : List Int) (tb : Tb s w t) : R_ignores_last [.fz (.int s), .fz (.list (iL t))] (.val (.fz (.bool (igL s t))))
inductive R_narrowed : List Sl → Res → Prop
  | mk (s : Int) (m : MS) (tm : Tm s m) : R_narrowed [.fz (msD s m)] (.val (.pv (msD s (nar s m))))
inductive R__law_reduced : List Sl → Res → Prop
  | mk (s : Int) (m : MS) (tm : Tm s m) : R__law_reduced [.fz (msD s m)] (.val (.fz (msD s (nar s m))))
inductive R_same_map : List Sl → Res → Prop
  | mk (s s' : Int) (m n : MS) (tm : Tm s m) (tn : Tm s' n) : R_same_map [.fz (msD s m), .fz (msD s' n)] (.val (.fz (.bool (decide (s = s' ∧ nar s m = nar s' n)))))
theorem nar1_of {s : Int} {m y : MS} {k : Nat} (h : itA (st1 s) k m = y) (hf : st1 s y = y) (hk : k ≤ 20) : nar1 s m = y := by unfold nar1; exact itA_end h hf hk
theorem nar2_of {s : Int} {m y : MS} {k : Nat} (h : itA (st2 s) k (nar1 s m) = y) (hf : st2 s y = y) (hk : k ≤ 20) : nar2 s m = y := by unfold nar2; exact itA_end h hf hk
theorem eqv_int (x y : Int) : PyData.eqv (.int x) (.int y) = decide (x = y) := by
  have e : PyData.eqv (.int x) (.int y) = (x == y) := by rw [PyData.eqv]
  rw [e]
  by_cases h : x = y
  · subst h; simp
  · rw [decide_eq_false h]; simp [h]
theorem eqv_mapD (s s' o o' : Int) (w w' : Nat) (t t' : List Int) : PyData.eqv (mapD s o w t) (mapD s' o' w' t') = decide (s = s' ∧ (o, w, t) = (o', w', t')) := by
  unfold mapD
  rw [PyData.eqv]
  show PyData.eqvAll [.int s, .int o, .int (w : Int), .list (iL t)] [.int s', .int o', .int (w' : Int), .list (iL t')] = _
  rw [PyData.eqvAll, PyData.eqvAll, PyData.eqvAll, PyData.eqvAll, PyData.eqvAll, eqv_int, eqv_int, eqv_int, eqv_iL, show decide ((w : Int) = (w' : Int)) = decide (w = w') from decide_eq_decide.mpr (by omega)]
  by_cases h : s = s' ∧ (o, w, t) = (o', w', t')
  · rw [decide_eq_true h]
    obtain ⟨rfl, h2⟩ := h
    cases h2
    simp
  · rw [decide_eq_false h]
    by_cases h1 : s = s' ∧ o = o' ∧ w = w' ∧ t = t'
    · obtain ⟨rfl, rfl, rfl, rfl⟩ := h1
      exact absurd ⟨rfl, rfl⟩ h
    · by_cases a : s = s' <;> by_cases b : o = o' <;> by_cases c : w = w' <;> by_cases d : t = t' <;> simp_all

theorem igF_law {s : Int} {v : Nat} {t : List Int} (tb : Tb s (v + 1) t) : igF s t = ((List.range s.toNat).map fun (j : Nat) => decide ((t.drop (j * (t.length / s.toNat))).take (t.length / s.toNat) = t.take (t.length / s.toNat))).all id := by
  have p := tb.part
  generalize hP : t.length / s.toNat = P at p
  have hle : P ≤ t.length := by rw [← hP]; exact Nat.div_le_self ..
  have hlt : (t.take P).length = P := by rw [List.length_take, Nat.min_eq_left hle]
  have key : (t = rep s.toNat (t.take P)) ↔ ∀ j, j < s.toNat → (t.drop (j * P)).take P = t.take P := by
    have g := fun k (hk : k < s.toNat * P) => flat_get (u := t.take P) (by rw [hlt]; exact p.2.2) s.toNat k (by rw [hlt]; exact hk)
    constructor
    · intro e j hj
      refine List.ext_getElem? fun i => ?_
      by_cases hi : i < P
      · have hk : j * P + i < s.toNat * P := by
          have : (j + 1) * P ≤ s.toNat * P := Nat.mul_le_mul_right _ hj
          rw [Nat.add_mul, Nat.one_mul] at this
          omega
        have g2 := g _ hk
        have e2 : (List.replicate s.toNat (t.take P)).flatten = t := e.symm
        rw [e2, hlt] at g2
        rw [List.getElem?_take_of_lt hi, List.getElem?_drop, g2, show (j * P + i) % P = i by rw [Nat.mul_comm, Nat.mul_add_mod]; exact Nat.mod_eq_of_lt hi]
      · rw [List.getElem?_eq_none (by rw [List.length_take]; omega), List.getElem?_eq_none (by omega)]
    · intro h
      refine List.ext_getElem? fun k => ?_
      by_cases hk : k < s.toNat * P
      · have g2 := g k hk
        rw [hlt] at g2
        have hj : k / P < s.toNat := Nat.div_lt_of_lt_mul (by rw [Nat.mul_comm]; exact hk)
        have h2 := congrArg (fun l : List Int => l[k % P]?) (h _ hj)
        have hm : k % P < P := Nat.mod_lt _ p.2.2
        have h2 : ((t.drop (k / P * P)).take P)[k % P]? = (t.take P)[k % P]? := h2
        rw [List.getElem?_take_of_lt hm, List.getElem?_drop] at h2
        have e : k / P * P + k % P = k := by rw [Nat.mul_comm]; exact Nat.div_add_mod k P
        rw [e] at h2
        unfold rep
        rw [g2, h2]
      · rw [List.getElem?_eq_none (by omega), List.getElem?_eq_none (by rw [rep_len, hlt]; omega)]
  unfold igF
  rw [hP]
  by_cases h : t = rep s.toNat (t.take P)
  · rw [decide_eq_true h]
    symm
    rw [List.all_eq_true]
    intro b hb
    obtain ⟨j, hj, rfl⟩ := List.mem_map.mp hb
    exact decide_eq_true (key.mp h j (List.mem_range.mp hj))
  · rw [decide_eq_false h]
    symm
    rw [List.all_eq_false]
    have : ∃ j, j < s.toNat ∧ ¬ (t.drop (j * P)).take P = t.take P := Classical.byContradiction fun hn => h (key.mpr fun j hj => Classical.byContradiction fun z => hn ⟨j, hj, z⟩)
    obtain ⟨j, hj, hz⟩ := this
    exact ⟨_, List.mem_map.mpr ⟨j, List.mem_range.mpr hj, rfl⟩, by rw [decide_eq_false hz]; exact Bool.false_ne_true⟩
theorem igL_law {s : Int} {v : Nat} {t : List Int} (tb : Tb s (v + 1) t) : ((List.range t.length).map fun (j : Nat) => getI (stpI t s.toNat) (j / s.toNat)) = (List.range t.length).map fun (k : Nat) => getI t (k - k % s.toNat) := by
  have p := tb.part
  have hs := tb.hs
  refine List.map_congr_left fun j hj => ?_
  rw [List.mem_range] at hj
  have hj2 : j / s.toNat < t.length / s.toNat := Nat.div_lt_of_lt_mul (by rw [← p.2.1]; exact hj)
  rw [stpI_get hj2]
  congr 1
  have := Nat.div_add_mod j s.toNat
  rw [Nat.mul_comm] at this
  omega
theorem one_law {s : Int} {t : List Int} (tb : Tb s 1 t) : decide (t = List.replicate s.toNat (getI t 0)) = (t.map fun c => decide (c = getI t 0)).all id := by
  have hl := tb.hl
  have hs := tb.hs
  rw [Int.pow_succ, Int.pow_zero, Int.one_mul] at hl
  by_cases h : t = List.replicate s.toNat (getI t 0)
  · rw [decide_eq_true h]
    symm
    rw [List.all_eq_true]
    intro b hb
    obtain ⟨c, hc, rfl⟩ := List.mem_map.mp hb
    rw [h] at hc
    exact decide_eq_true (List.mem_replicate.mp hc).2
  · rw [decide_eq_false h]
    symm
    rw [List.all_eq_false]
    have : ∃ c ∈ t, ¬ c = getI t 0 := Classical.byContradiction fun hn => h (List.eq_replicate_iff.mpr ⟨by omega, fun c hc => Classical.byContradiction fun z => hn ⟨c, hc, z⟩⟩)
    obtain ⟨c, hc, hz⟩ := this
    exact ⟨_, List.mem_map.mpr ⟨c, hc, rfl⟩, by rw [decide_eq_false hz]; exact Bool.false_ne_true⟩
theorem msTx' {s : Int} {m : MS} (tm : Tm s m) : SeqAt.shaped (msD s m) = true := by
  have e : SeqAt.shaped (msD s m) = SeqAt.shaped (mapD s 0 m.2.1 m.2.2) := by rfl
  rw [e]
  exact (mapTx tm (by decide)).shaped (by decide)
end Ed

namespace Ed
open PySem PySem.Spec PyProof.Rows L2
def redR (C : Addr) (s : Int) (m : MS) : Res := if (decide (-100 ≤ (nar s m).1) && decide ((nar s m).1 ≤ 100)) = true then .val (.pv (msD s (nar s m))) else .exc (.ref C)
inductive R_reduced (C : Addr) : List Sl → Res → Prop
  | mk (s : Int) (m : MS) (tm : Tm s m) : R_reduced C [.fz (msD s m)] (redR C s m)
theorem R_reduced.val {C : Addr} {s : Int} {m : MS} (tm : Tm s m) (h : -100 ≤ (nar s m).1 ∧ (nar s m).1 ≤ 100) : R_reduced C [.fz (msD s m)] (.val (.pv (msD s (nar s m)))) := by
  have e := R_reduced.mk (C := C) s m tm
  unfold redR at e
  rw [decide_eq_true h.1, decide_eq_true h.2] at e
  exact e
theorem R_reduced.exc {C : Addr} {s : Int} {m : MS} (tm : Tm s m) (h : ¬ (-100 ≤ (nar s m).1 ∧ (nar s m).1 ≤ 100)) : R_reduced C [.fz (msD s m)] (.exc (.ref C)) := by
  have e := R_reduced.mk (C := C) s m tm
  unfold redR at e
  rw [if_neg (fun z => h (by rw [Bool.and_eq_true, decide_eq_true_eq, decide_eq_true_eq] at z; exact z))] at e
  exact e
inductive R__law_refused : List Sl → Res → Prop
  | mk (s : Int) (m : MS) (tm : Tm s m) (h : ¬ (-100 ≤ (nar s m).1 ∧ (nar s m).1 ≤ 100)) : R__law_refused [.fz (msD s m)] (.val (.fz (.bool true)))
def lawWider (s : Int) (m : MS) (k : Int) : MS := if k = 0 then (m.1 - 1, m.2.1 + 1, rep s.toNat m.2.2) else (m.1, m.2.1 + 1, (List.range (m.2.2.length * s.toNat)).map fun (j : Nat) => getI m.2.2 (j / s.toNat))
inductive R__law_wider : List Sl → Res → Prop
  | mk (s : Int) (m : MS) (k : Int) (tm : Tm s m) (hl : m.2.2.length ≤ 1000) : R__law_wider [.fz (msD s m), .fz (.int k)] (.val (.fz (msD s (lawWider s m k))))
section
variable {K : PySem.W.Frag} {ρ : List Sl} {E : XK} {P : Post} {ta tb : TE}
theorem s_retP {i : Nat} {d : Ed.D} (hi : ρ[i]? = some (.pv d)) (k : P.rt (.pv d)) : Run K E (tRet (tVar i)) ρ P := fun F0 H0 F H σ D c _ rt _ _ _ => by
  obtain ⟨v, g1, g2⟩ := c.get hi nofun
  exact ⟨v, g1, rt v _ F H c.ex g2 k⟩
end
theorem ev_notB_no {K : PySem.W.Frag} {ρ : List Sl} {ta tb : TE} {a : Bool} (ha : EvD K ta ρ (.bool a)) (hb : EvD K tb ρ (.bool a)) : EvD K (tOp rNotB ta tb) ρ (.bool false) :=
  ev_op ha hb fun x y F H fh hx hy Q q => by
    rw [hx.bool_eq, hy.bool_eq]
    refine ⟨a, a, rfl, rfl, ?_⟩
    rw [decide_eq_true rfl]
    exact q _ F H (.refl fh) (.bl _)
theorem EvT_false {K : PySem.W.Frag} {ρ : List Sl} {t : TT} {a : Bool} (h : EvT K t ρ (a && false)) : EvT K t ρ false := et_is h (Bool.and_false a)
/-! ### more on reduced forms -/
theorem st1_sum {s : Int} {m : MS} (h : Tm s m) : (st1 s m).1 + ((st1 s m).2.1 : Int) = m.1 + (m.2.1 : Int) := by
  obtain ⟨o, w, t⟩ := m
  have hw : 1 ≤ w := Tb.hw h
  by_cases hc : 1 < w ∧ igF s t = true
  · have e : st1 s (o, w, t) = (o + 1, w - 1, t.take (t.length / s.toNat)) := if_pos hc
    rw [e]
    show o + 1 + ((w - 1 : Nat) : Int) = o + (w : Int)
    omega
  · have e : st1 s (o, w, t) = (o, w, t) := if_neg hc
    rw [e]
theorem iter1_sum {s : Int} {m : MS} (h : Tm s m) : ∀ n, (itA (st1 s) n m).1 + ((itA (st1 s) n m).2.1 : Int) = m.1 + (m.2.1 : Int)
  | 0 => rfl
  | n + 1 => by
    rw [itA_snoc, st1_sum (iter1 h n).1.tb]
    exact iter1_sum h n
theorem nar1_sum {s : Int} {m : MS} (h : Tm s m) : (nar1 s m).1 + ((nar1 s m).2.1 : Int) = m.1 + (m.2.1 : Int) := by
  have q := iter1_sum h 20
  unfold nar1
  exact q
theorem nar_off {s : Int} {m : MS} (h : Tm s m) : (nar s m).1 = 0 ∨ (m.1 ≤ (nar s m).1 ∧ (nar s m).1 ≤ m.1 + 12) := by
  have q := nar1_sum h
  have a := nar1_ok h
  have b := nar2_ok h
  have w1 : 1 ≤ (nar1 s m).2.1 := Tb.hw a.1.tb
  have w2 := a.1.le
  have w3 : m.2.1 ≤ 12 := Tb.w12 h
  unfold nar
  split
  · exact .inl rfl
  · rw [b.2.1]
    exact .inr (by omega)
theorem nar_idem {s : Int} {m : MS} (h : Tm s m) : nar s (nar s m) = nar s m := by
  have a := nar_ok h
  have b := nar_ok a.1.tb
  exact canon b.1.tb a.1.tb b.2 a.2 b.1.rv
theorem rep_cut {s : Int} {w : Nat} {t : List Int} (tb : Tb s w t) : (rep s.toNat t).length / s.toNat = t.length ∧ (rep s.toNat t).take t.length = t := by
  have hs := tb.hs
  have hS := tb.S
  refine ⟨by rw [rep_len]; exact Nat.mul_div_cancel_left _ (by omega), ?_⟩
  obtain ⟨n, hn⟩ : ∃ n, s.toNat = n + 1 := ⟨s.toNat - 1, by omega⟩
  unfold rep
  rw [hn, List.replicate_succ, List.flatten_cons, List.take_left]
theorem rep_Tm {s : Int} {w : Nat} {t : List Int} (tb : Tb s w t) (h : t.length ≤ 1000) : Tb s (w + 1) (rep s.toNat t) := by
  have hs := tb.hs
  have hl := tb.hl
  have hS := tb.S
  have h4 : s.toNat * t.length ≤ 4 * t.length := Nat.mul_le_mul_right _ (by omega)
  refine ⟨hs, by omega, ?_, by rw [rep_len]; omega, rep_in tb.hc _⟩
  rw [rep_len, Int.natCast_mul, hS, hl, Int.pow_succ, Int.mul_comm]
theorem wide_Tm {s : Int} {w : Nat} {t : List Int} (tb : Tb s w t) (h : t.length ≤ 1000) : Tb s (w + 1) ((List.range (t.length * s.toNat)).map fun (j : Nat) => getI t (j / s.toNat)) := by
  have hs := tb.hs
  have hl := tb.hl
  have hS := tb.S
  have h4 : t.length * s.toNat ≤ t.length * 4 := Nat.mul_le_mul_left _ (by omega)
  refine ⟨hs, by omega, ?_, by rw [List.length_map, List.length_range]; omega, inR_rangeMap fun k hk => getI_in tb.hc (Nat.div_lt_of_lt_mul (by rw [Nat.mul_comm]; exact hk))⟩
  rw [List.length_map, List.length_range, Int.natCast_mul, hS, hl, Int.pow_succ]
theorem rv_rep {s o : Int} {w : Nat} {t : List Int} (tb : Tb s w t) (h : t.length ≤ 1000) {x : Int → Int} (hx : Row s x) : rv s (o - 1, w + 1, rep s.toNat t) x = rv s (o, w, t) x := by
  have c := rep_cut tb
  have g : igF s (rep s.toNat t) = true := by
    unfold igF
    rw [c.1, c.2]
    exact decide_eq_true rfl
  have q := rv_st1 (o := o - 1) (rep_Tm tb h) g hx
  rw [c.1, c.2, show o - 1 + 1 = o by omega] at q
  exact q.symm
theorem rv_wide {s o : Int} {w : Nat} {t : List Int} (tb : Tb s w t) (h : t.length ≤ 1000) {x : Int → Int} (hx : Row s x) : rv s (o, w + 1, (List.range (t.length * s.toNat)).map fun (j : Nat) => getI t (j / s.toNat)) x = rv s (o, w, t) x := by
  have hs := tb.hs
  have hS : 0 < s.toNat := by omega
  have hln : ((List.range (t.length * s.toNat)).map fun (j : Nat) => getI t (j / s.toNat)).length = t.length * s.toNat := by rw [List.length_map, List.length_range]
  have gt : ∀ k, k < t.length * s.toNat → getI ((List.range (t.length * s.toNat)).map fun (j : Nat) => getI t (j / s.toNat)) k = getI t (k / s.toNat) := fun k hk => getI_of (by rw [List.getElem?_map, List.getElem?_range hk]; rfl)
  have g : igL s ((List.range (t.length * s.toNat)).map fun (j : Nat) => getI t (j / s.toNat)) = true := by
    unfold igL
    refine decide_eq_true (List.map_congr_left ?_ |>.trans (congrArg (fun n => List.map _ (List.range n)) hln.symm))
    intro k hk
    rw [List.mem_range] at hk
    have hle : k - k % s.toNat ≤ k := Nat.sub_le ..
    rw [gt _ (by omega)]
    congr 1
    have e : k - k % s.toNat = k / s.toNat * s.toNat := by
      have := Nat.div_add_mod k s.toNat
      rw [Nat.mul_comm] at this
      omega
    rw [e, Nat.mul_div_cancel _ hS]
  have q := rv_st2 (o := o) (wide_Tm tb h) g hx
  have e : stpI ((List.range (t.length * s.toNat)).map fun (j : Nat) => getI t (j / s.toNat)) s.toNat = t := by
    unfold stpI
    rw [hln, Nat.mul_div_cancel _ hS]
    refine List.ext_getElem? fun k => ?_
    by_cases hk : k < t.length
    · rw [List.getElem?_map, List.getElem?_range hk, getI_at hk]
      show some (getI _ (k * s.toNat)) = _
      rw [gt _ (Nat.mul_lt_mul_of_pos_right hk hS), Nat.mul_div_cancel _ hS]
    · rw [List.getElem?_eq_none (by rw [List.length_map, List.length_range]; omega), List.getElem?_eq_none (by omega)]
  rw [e] at q
  exact q.symm
theorem wider_ok {s : Int} {m : MS} (tm : Tm s m) (hl : m.2.2.length ≤ 1000) (k : Int) : Tm s (lawWider s m k) ∧ nar s (lawWider s m k) = nar s m ∧ (m.1 - 1 ≤ (lawWider s m k).1 ∧ (lawWider s m k).1 ≤ m.1) := by
  obtain ⟨o, w, t⟩ := m
  have tb : Tb s w t := tm
  unfold lawWider
  split
  · have tw : Tm s (o - 1, w + 1, rep s.toNat t) := rep_Tm tb hl
    exact ⟨tw, (nar_eq_iff tw tm).mpr fun x hx => rv_rep tb hl hx, by show o - 1 ≤ o - 1 ∧ o - 1 ≤ o; omega⟩
  · have tw : Tm s (o, w + 1, (List.range (t.length * s.toNat)).map fun (j : Nat) => getI t (j / s.toNat)) := wide_Tm tb hl
    exact ⟨tw, (nar_eq_iff tw tm).mpr fun x hx => rv_wide tb hl hx, by show o - 1 ≤ o ∧ o ≤ o; omega⟩
/-- round rows under a map and its reduced map -/
theorem round_rv {s : Int} {m n : MS} {row : List Int} (h : 0 < row.length) (hr : InR s row) (e : ∀ x, Row s x → rv s m x = rv s n x) : roundImage s m.1 m.2.1 m.2.2 row = roundImage s n.1 n.2.1 n.2.2 row := by
  unfold roundImage
  refine List.map_congr_left fun k _ => ?_
  have key : ∀ m : MS, getI m.2.2 (lawIndex (winAt row m.2.1 ((k : Int) + m.1)) s).toNat = rv s m fun i => rowAt row ((k : Int) + i) := fun m => by
    unfold rv
    congr 3
    unfold winAt win
    refine List.map_congr_left fun j _ => ?_
    show rowAt row _ = rowAt row _
    congr 1; omega
  rw [key m, key n]
  exact e _ fun i => rowAt_in h hr _
end Ed

namespace Ed
open PySem PySem.Spec PyProof.Rows L2

/-! ## compositions -/
theorem idxU {s : Int} (hs : 0 < s) : ∀ (a b : List Int), InR s a → InR s b → a.length = b.length → lawIndex a s = lawIndex b s → a = b := by
  intro a
  induction a with
  | nil =>
    intro b _ _ hl _
    cases b with
    | nil => rfl
    | cons y b => cases hl
  | cons x a ih =>
    intro b ha hb hl e
    cases b with
    | nil => cases hl
    | cons y b =>
      have hl2 : a.length = b.length := by simpa using hl
      have ha' : InR s a := fun z hz => ha z (List.mem_cons_of_mem _ hz)
      have hb' : InR s b := fun z hz => hb z (List.mem_cons_of_mem _ hz)
      have b1 := idx_bound hs a ha'
      have b2 := idx_bound hs b hb'
      rw [idx_cons, idx_cons, ← hl2] at e
      rw [← hl2] at b2
      have hxy : x = y := by
        rcases Int.lt_trichotomy x y with z | z | z
        · have : (x + 1) * s ^ a.length ≤ y * s ^ a.length := Int.mul_le_mul_of_nonneg_right (by omega) (by omega)
          rw [Int.add_mul, Int.one_mul] at this
          omega
        · exact z
        · have : (y + 1) * s ^ a.length ≤ x * s ^ a.length := Int.mul_le_mul_of_nonneg_right (by omega) (by omega)
          rw [Int.add_mul, Int.one_mul] at this
          omega
      subst hxy
      rw [ih b ha' hb' hl2 (by omega)]
theorem digits_snoc {s : Int} (hs : 0 < s) {k : Nat} {n : Nat} (hk : (k : Int) < s ^ (n + 1)) : lawDigits (k : Int) s (n + 1) = lawDigits ((k / s.toNat : Nat) : Int) s n ++ [((k % s.toNat : Nat) : Int)] := by
  have hS : ((s.toNat : Nat) : Int) = s := by omega
  have hq : ((k / s.toNat : Nat) : Int) < s ^ n := by
    have e := Nat.div_add_mod k s.toNat
    rw [Int.pow_succ] at hk
    refine Int.lt_of_mul_lt_mul_right (a := s) ?_ (by omega)
    have h2 : ((s.toNat * (k / s.toNat) : Nat) : Int) = ((k / s.toNat : Nat) : Int) * s := by rw [Int.natCast_mul, hS, Int.mul_comm]
    have h3 : ((s.toNat * (k / s.toNat) : Nat) : Int) ≤ (k : Int) := by omega
    omega
  have hm : (k % s.toNat : Nat) < s.toNat := Nat.mod_lt _ (by omega)
  refine idxU hs _ _ (digits_in hs _ _) ((digits_in hs _ _).app fun z hz => ?_) (by rw [digits_len, List.length_append, digits_len]; rfl) ?_
  · rw [List.mem_singleton.mp hz]; omega
  · rw [idx_digits hs (by omega) hk, idx_snoc, idx_digits hs (Int.natCast_nonneg _) hq]
    have e := Nat.div_add_mod k s.toNat
    have h2 : ((s.toNat * (k / s.toNat) : Nat) : Int) = ((k / s.toNat : Nat) : Int) * s := by rw [Int.natCast_mul, hS, Int.mul_comm]
    omega
/-- the image of a word with one cell more -/
theorem apply_snoc {s : Int} {w : Nat} {t word : List Int} {c : Int} (hw : 1 ≤ w) (h : w ≤ word.length + 1) :
    lawApply s w t (word ++ [c]) = lawApply s w t word ++ [getI t (lawIndex (((word ++ [c]).drop (word.length + 1 - w)).take w) s).toNat] := by
  unfold lawApply
  rw [show (word ++ [c]).length + 1 - w = (word.length + 1 - w) + 1 by rw [List.length_append]; show word.length + 1 + 1 - w = _; omega, List.range_succ, List.map_append]
  congr 1
  refine List.map_congr_left fun k hk => ?_
  rw [List.mem_range] at hk
  have : ((word ++ [c]).drop k).take w = (word.drop k).take w := by
    rw [List.drop_append_of_le_length (by omega), List.take_append_of_le_length (by rw [List.length_drop]; omega)]
  rw [this]
/-- the number of the image word of the word with the number k, of the length n -/
def imgNo (s : Int) (w : Nat) (t : List Int) (n k : Nat) : Int := lawIndex (lawApply s w t (lawDigits (k : Int) s n)) s
section
variable {s : Int} {w : Nat} {t : List Int}
theorem imgNo_zero (tb : Tb s w t) {k : Nat} (hk : k < t.length) : imgNo s w t w k = getI t k := by
  have hs := tb.hs
  have hl := tb.hl
  unfold imgNo lawApply
  rw [digits_len, show w + 1 - w = 1 by omega]
  have e : (((lawDigits (k : Int) s w).drop 0).take w) = lawDigits (k : Int) s w := by
    rw [List.drop_zero]; exact List.take_of_length_le (by rw [digits_len]; omega)
  show lawIndex [t.getD (lawIndex (((lawDigits (k : Int) s w).drop 0).take w) s).toNat 0] s = _
  rw [e, idx_digits (by omega) (by omega) (by omega), Int.toNat_natCast]
  show 0 * s + getI t k = getI t k
  omega
theorem imgNo_succ (tb : Tb s w t) {n k : Nat} (hn : w ≤ n) (hk : (k : Int) < s ^ (n + 1)) : imgNo s w t (n + 1) k = imgNo s w t n (k / s.toNat) * s + getI t (k % t.length) := by
  have hs := tb.hs
  have hw := tb.hw
  have hl := tb.hl
  unfold imgNo
  have d := digits_snoc (show 0 < s by omega) hk
  have win := idx_window (show 0 < s by omega) (word := lawDigits (k : Int) s (n + 1)) (digits_in (by omega) _ _) (i := n + 1) (w := w) (by rw [digits_len]; omega) (by omega)
  rw [List.take_of_length_le (by rw [digits_len]; omega), idx_digits (by omega) (by omega) hk, ← hl] at win
  have wl : (lawDigits ((k / s.toNat : Nat) : Int) s n).length = n := digits_len ..
  have a := apply_snoc (s := s) (w := w) (t := t) (word := lawDigits ((k / s.toNat : Nat) : Int) s n) (c := ((k % s.toNat : Nat) : Int)) hw (by rw [wl]; omega)
  rw [wl, ← d] at a
  rw [a, idx_snoc, ← win, show ((k : Int) % (t.length : Int)).toNat = k % t.length by rw [← Int.natCast_emod, Int.toNat_natCast]]
end
/-- the composition, as a table over all words -/
def comp (s : Int) (m n : MS) : MS := (m.1 + n.1, m.2.1 + n.2.1 - 1, (List.range (s ^ (m.2.1 + n.2.1 - 1)).toNat).map fun (k : Nat) => getI n.2.2 (imgNo s m.2.1 m.2.2 (m.2.1 + n.2.1 - 1) k).toNat)
/-- the row after a map -/
def aft (s : Int) (m : MS) (x : Int → Int) : Int → Int := fun i => rv s m fun j => x (i + j)
theorem aft_row {s : Int} {m : MS} (tm : Tb s m.2.1 m.2.2) {x : Int → Int} (hx : Row s x) : Row s (aft s m x) := fun i => by
  have hs := tm.hs
  have hr : Row s fun j => x (i + j) := fun j => hx _
  obtain ⟨k, h1, h2⟩ := tm.at (win_in hr m.1 m.2.1) (win_len ..)
  show 0 ≤ rv s m (fun j => x (i + j)) ∧ rv s m (fun j => x (i + j)) < s
  unfold rv
  rw [h1, Int.toNat_natCast]
  exact getI_in tm.hc (List.getElem?_eq_some_iff.mp h2).1
/-- the images of a window are the image row's window -/
theorem apply_win {s : Int} {m : MS} {x : Int → Int} {p : Int} {v : Nat} (hv : 1 ≤ v) (hw : 1 ≤ m.2.1) : lawApply s m.2.1 m.2.2 (win x (p + m.1) (m.2.1 + v - 1)) = win (aft s m x) p v := by
  unfold lawApply
  rw [win_len, show m.2.1 + v - 1 + 1 - m.2.1 = v by omega]
  unfold win
  refine List.map_congr_left fun k hk => ?_
  rw [List.mem_range] at hk
  show getI m.2.2 _ = rv s m fun j => x (p + (k : Int) + j)
  unfold rv
  congr 3
  refine List.ext_getElem? fun i => ?_
  by_cases hi : i < m.2.1
  · rw [List.getElem?_take_of_lt hi, List.getElem?_drop, List.getElem?_map, List.getElem?_range (by omega)]
    unfold win
    rw [List.getElem?_map, List.getElem?_range hi]
    show some (x _) = some (x _)
    congr 2; omega
  · rw [List.getElem?_eq_none (by rw [List.length_take]; omega), List.getElem?_eq_none (by rw [win_len]; omega)]
theorem comp_Tb {s : Int} {m n : MS} (tm : Tb s m.2.1 m.2.2) (tn : Tb s n.2.1 n.2.2) (hm : s ^ (m.2.1 + n.2.1 - 1) ≤ 4096) : Tb s (comp s m n).2.1 (comp s m n).2.2 := by
  have hs := tm.hs
  have h1 := tm.hw
  have h2 := tn.hw
  have hp := pow_pos' (show 0 < s by omega) (m.2.1 + n.2.1 - 1)
  refine ⟨hs, by show 1 ≤ m.2.1 + n.2.1 - 1; omega, ?_, ?_, inR_rangeMap fun k hk => ?_⟩
  · show ((((List.range _).map _).length : Nat) : Int) = s ^ (m.2.1 + n.2.1 - 1)
    rw [List.length_map, List.length_range]; omega
  · show ((List.range _).map _).length ≤ 4096
    rw [List.length_map, List.length_range]; omega
  · have hin := lawApply_in tm (word := lawDigits (k : Int) s (m.2.1 + n.2.1 - 1)) (digits_in (by omega) _ _)
    have hl : (lawApply s m.2.1 m.2.2 (lawDigits (k : Int) s (m.2.1 + n.2.1 - 1))).length = n.2.1 := by rw [lawApply_len, digits_len]; omega
    obtain ⟨j, e1, e2⟩ := tn.at hin hl
    unfold imgNo
    rw [e1, Int.toNat_natCast]
    exact getI_in tn.hc (List.getElem?_eq_some_iff.mp e2).1
/-- the composition's value: the second map's of the row after the first one -/
theorem rv_comp {s : Int} {m n : MS} (tm : Tb s m.2.1 m.2.2) (tn : Tb s n.2.1 n.2.2) {x : Int → Int} (hx : Row s x) : rv s (comp s m n) x = rv s n (aft s m x) := by
  have hs := tm.hs
  have h1 := tm.hw
  have h2 := tn.hw
  have b := idx_bound (show 0 < s by omega) _ (win_in hx (m.1 + n.1) (m.2.1 + n.2.1 - 1))
  rw [win_len] at b
  obtain ⟨k, hk⟩ : ∃ k : Nat, lawIndex (win x (m.1 + n.1) (m.2.1 + n.2.1 - 1)) s = (k : Int) := ⟨(lawIndex (win x (m.1 + n.1) (m.2.1 + n.2.1 - 1)) s).toNat, by omega⟩
  have hwin : lawDigits (k : Int) s (m.2.1 + n.2.1 - 1) = win x (m.1 + n.1) (m.2.1 + n.2.1 - 1) := idxU (by omega) _ _ (digits_in (by omega) _ _) (win_in hx _ _) (by rw [digits_len, win_len]) (by rw [idx_digits (by omega) (by omega) (by omega), hk])
  have e1 : rv s (comp s m n) x = getI (comp s m n).2.2 k := by
    unfold rv
    show getI _ (lawIndex (win x (m.1 + n.1) (m.2.1 + n.2.1 - 1)) s).toNat = _
    rw [hk, Int.toNat_natCast]
  have e2 : getI (comp s m n).2.2 k = getI n.2.2 (imgNo s m.2.1 m.2.2 (m.2.1 + n.2.1 - 1) k).toNat := by
    refine getI_of ?_
    show ((List.range _).map _)[k]? = _
    rw [List.getElem?_map, List.getElem?_range (by omega)]; rfl
  rw [e1, e2]
  unfold imgNo
  rw [hwin, show m.1 + n.1 = n.1 + m.1 by omega, apply_win h2 h1]
  rfl
end Ed

namespace Ed
open PySem PySem.Spec PyProof.Rows L2
def imgNos (s : Int) (w : Nat) (t : List Int) (n : Nat) : List Int := (List.range (s ^ n).toNat).map fun (k : Nat) => imgNo s w t n k
inductive R_image_numbers : List Sl → Res → Prop
  | mk (s o : Int) (w : Nat) (t : List Int) (L : Nat) (tb : Tb s w t) (hL : 1 ≤ L) (hm : s ^ (w + L - 1) ≤ 4096) : R_image_numbers [.fz (mapD s o w t), .fz (.int (L : Int))] (.val (.fz (.list (iL (imgNos s w t (w + L - 1))))))
theorem imgNos_zero {s : Int} {w : Nat} {t : List Int} (tb : Tb s w t) : imgNos s w t w = t := by
  have hl := tb.hl
  unfold imgNos
  refine List.ext_getElem? fun k => ?_
  by_cases hk : k < t.length
  · rw [List.getElem?_map, List.getElem?_range (by omega), getI_at hk]
    show some (imgNo s w t w k) = _
    rw [imgNo_zero tb hk]
  · rw [List.getElem?_eq_none (by rw [List.length_map, List.length_range]; omega), List.getElem?_eq_none (by omega)]
theorem imgNos_get {s : Int} {w : Nat} {t : List Int} {n k : Nat} (hk : k < (s ^ n).toNat) : (imgNos s w t n)[k]? = some (imgNo s w t n k) := by
  unfold imgNos
  rw [List.getElem?_map, List.getElem?_range hk]; rfl
theorem imgNos_len (s : Int) (w : Nat) (t : List Int) (n : Nat) : (imgNos s w t n).length = (s ^ n).toNat := by unfold imgNos; rw [List.length_map, List.length_range]
theorem imgNo_bound {s : Int} {w : Nat} {t : List Int} (tb : Tb s w t) {n k : Nat} : 0 ≤ imgNo s w t n k ∧ imgNo s w t n k < s ^ (n + 1 - w) := by
  have hs := tb.hs
  have b := idx_bound (show 0 < s by omega) _ (lawApply_in tb (word := lawDigits (k : Int) s n) (digits_in (by omega) _ _))
  rw [lawApply_len, digits_len] at b
  exact b
end Ed
namespace Ed
open PySem PySem.Spec PyProof.Rows L2
def cmpOk (s s' : Int) (m n : MS) : Prop := s = s' ∧ s ^ (m.2.1 + n.2.1 - 1) ≤ 4096 ∧ (-100 ≤ m.1 + n.1 ∧ m.1 + n.1 ≤ 100)
instance (s s' : Int) (m n : MS) : Decidable (cmpOk s s' m n) := inferInstanceAs (Decidable (_ ∧ _ ∧ _))
def msC (s : Int) (m : MS) : D := mapD s m.1 m.2.1 m.2.2
def cmpR (C : Addr) (s s' : Int) (m n : MS) : Res := if cmpOk s s' m n then .val (.pv (msC s (comp s m n))) else .exc (.ref C)
inductive R_composed (C : Addr) : List Sl → Res → Prop
  | mk (s s' : Int) (m n : MS) (tm : Tb s m.2.1 m.2.2) (tn : Tb s' n.2.1 n.2.2) : R_composed C [.fz (msC s m), .fz (msC s' n)] (cmpR C s s' m n)
inductive R__law_composed : List Sl → Res → Prop
  | mk (s : Int) (m n : MS) (tm : Tb s m.2.1 m.2.2) (tn : Tb s n.2.1 n.2.2) (h : s ^ (m.2.1 + n.2.1 - 1) ≤ 4096) : R__law_composed [.fz (msC s m), .fz (msC s n)] (.val (.fz (msC s (comp s m n))))
/-- the size that composed looks at -/
theorem comp_size {s : Int} {m n : MS} (tm : Tb s m.2.1 m.2.2) (tn : Tb s n.2.1 n.2.2) : ((m.2.2.length : Int) * (n.2.2.length : Int)) / s = s ^ (m.2.1 + n.2.1 - 1) := by
  have hs := tm.hs
  have h1 := tm.hw
  have h2 := tn.hw
  rw [tm.hl, tn.hl, ← Int.pow_add, show m.2.1 + n.2.1 = (m.2.1 + n.2.1 - 1) + 1 by omega, Int.pow_succ]
  exact Int.mul_ediv_cancel _ (by omega)
end Ed

namespace Ed
open PySem PySem.Spec PyProof.Rows L2
section
variable {K : PySem.W.Frag} {ρ : List Sl} {E : XK} {P : Post} {ta tb te : TE}
/-- t[lo:hi], t a tuple, not the whole of it -/
theorem ev_slT {tl th : TO} {ds : List D} {lo hi : Option Int} (h : EvD K te ρ (.tuple ds)) (h1 : EvO K tl ρ lo) (h2 : EvO K th ρ hi) (hw : ¬ (HT.sIx ds.length 0 lo = 0 ∧ HT.sIx ds.length ds.length hi = ds.length)) : EvD K (tSl (rSlT K) te tl th) ρ (.tuple (cutD ds lo hi)) := fun F0 H0 F H σ c Q q =>
  h F0 H0 F H σ c _ fun v F1 H1 e1 g => h1 F0 H0 F1 H1 σ (c.up e1) _ fun F2 H2 e2 => h2 F0 H0 F2 H2 σ ((c.up e1).up e2) _ fun F3 H3 e3 => by
    have e := (e1.trans e2).trans e3
    have g3 : Dv F3 v (.tuple ds) := Dv.up (Dv.up g e2.ff) e3.ff
    cases g3 with
    | tup hs ha =>
      refine ⟨_, _, rfl, .inl (.inl (e.fh _ _ hs)), by rw [ha.len]; exact hw, fun p hp => q _ _ _ (e.trans (.new e.fh hp)) (.tup upd_same ((ha.cut lo hi).up (.new (e.fh.back hp))))⟩
/-- t + u, both not empty -/
theorem ev_catT {ds es : List D} (ha : EvD K ta ρ (.tuple ds)) (hb : EvD K tb ρ (.tuple es)) (h1 : ds ≠ []) (h2 : es ≠ []) (hz : ds.length + es.length ≤ sizeLine) : EvD K (tOp (rCatT K) ta tb) ρ (.tuple (ds ++ es)) :=
  ev_op ha hb fun x y F H fh hx hy Q q => by
    cases hx with
    | tup g1 g2 =>
      cases hy with
      | tup g3 g4 =>
        have l1 := g2.len
        have l2 := g4.len
        refine ⟨_, _, _, _, rfl, rfl, .inl (.inl (fh _ _ g1)), .inl (.inl (fh _ _ g3)), fun z => h1 (by subst z; exact List.length_eq_zero_iff.mp l1.symm), by rw [l1, l2]; exact hz, fun z => (h2 (by subst z; exact List.length_eq_zero_iff.mp l2.symm)).elim, fun _ p hp => ?_⟩
        exact q _ _ _ (.new fh hp) (.tup upd_same ((g2.app g4).up (.new (fh.back hp))))
end
theorem round_key {s : Int} {row : List Int} {m : MS} {k : Int} : getI m.2.2 (lawIndex (winAt row m.2.1 (k + m.1)) s).toNat = rv s m fun i => rowAt row (k + i) := by
  unfold rv
  congr 3
  unfold winAt win
  refine List.map_congr_left fun j _ => ?_
  show rowAt row _ = rowAt row _
  congr 1; omega
/-- a round row under a composition -/
theorem round_comp {s : Int} {m n : MS} {row : List Int} (tm : Tb s m.2.1 m.2.2) (tn : Tb s n.2.1 n.2.2) (h : 0 < row.length) (hr : InR s row) :
    roundImage s (comp s m n).1 (comp s m n).2.1 (comp s m n).2.2 row = roundImage s n.1 n.2.1 n.2.2 (roundImage s m.1 m.2.1 m.2.2 row) := by
  have hl : (roundImage s m.1 m.2.1 m.2.2 row).length = row.length := roundImage_len ..
  unfold roundImage
  rw [List.length_map, List.length_range]
  refine List.map_congr_left fun k _ => ?_
  show getI (comp s m n).2.2 (lawIndex (winAt row (comp s m n).2.1 ((k : Int) + (comp s m n).1)) s).toNat = getI n.2.2 (lawIndex (winAt (roundImage s m.1 m.2.1 m.2.2 row) n.2.1 ((k : Int) + n.1)) s).toNat
  rw [round_key, round_key, rv_comp tm tn fun i => rowAt_in h hr _]
  unfold rv
  congr 3
  unfold win
  refine List.map_congr_left fun j _ => ?_
  show aft s m _ _ = rowAt (roundImage s m.1 m.2.1 m.2.2 row) _
  rw [image_at h, round_key]
  unfold aft
  congr 1
  funext i
  show rowAt row _ = rowAt row _
  congr 1; omega
end Ed

namespace Ed
open PySem PySem.Spec PyProof.Rows L2
open PySem.W (EachIs alike alikeAll dataLt dataLe AllAlike Sortable)

theorem u65 {k : Nat} {A : Around} (r : Room k A) : A.units + 65 < cLine := by have := r.un; omega
/-! ## data in order -/
section
variable {X : Cx} {K : PySem.W.Frag}
def rCmpD (K : PySem.W.Frag) (f : D → D → Bool) : R2 := fun x y H Q => ∃ d e, Dp K H x d ∧ Dp K H y e ∧ alike d e = true ∧ d ≠ .none ∧ d.depth ≤ 60 ∧ Q (.bl (f d e)) H
theorem op_ltD (hu : X.A.units + 65 < cLine) : OpR X (compareOp .Lt) (rCmpD X.K fun d e => dataLt d e) := by
  intro pins s σ H x y v u Q I rx ry h
  obtain ⟨d, e, hd, he, ha, hn, hp, q⟩ := h
  obtain ⟨as, r1⟩ := Dp.reads I d x v hd rx
  obtain ⟨bs, r2⟩ := Dp.reads I e y u he ry
  exact PySem.W.lt_data r1 r2 ha hn (by omega) ⟨.bl _, H, I, rfl, q⟩
theorem op_geD (hu : X.A.units + 65 < cLine) : OpR X (compareOp .GtE) (rCmpD X.K fun d e => !dataLt d e) := by
  intro pins s σ H x y v u Q I rx ry h
  obtain ⟨d, e, hd, he, ha, hn, hp, q⟩ := h
  obtain ⟨as, r1⟩ := Dp.reads I d x v hd rx
  obtain ⟨bs, r2⟩ := Dp.reads I e y u he ry
  exact PySem.W.ge_data r1 r2 ha hn (by omega) ⟨.bl _, H, I, rfl, q⟩
theorem eachIs_vals {P : V → D → Prop} : ∀ {out : List Value} {ds : List D}, EachIs (fun v d => ∃ x, RelV x v ∧ P x d) out ds → ∃ ys, Vals ys out ∧ EachIs P ys ds
  | _, _, .nil => ⟨[], .nil, .nil⟩
  | _, _, .cons ⟨x, h1, h2⟩ t => by
    obtain ⟨ys, h3, h4⟩ := eachIs_vals t
    exact ⟨x :: ys, .cons h1 h3, .cons h2 h4⟩
theorem eachIs_mk {P : V → D → Prop} : ∀ {xs : List V} {vs : List Value} {ds : List D}, Vals xs vs → EachIs P xs ds → EachIs (fun v d => ∃ x, RelV x v ∧ P x d) vs ds
  | _, _, _, .nil, .nil => .nil
  | _, _, _, .cons r t, .cons h k => .cons ⟨_, r, h⟩ (eachIs_mk t k)
theorem eachIs_reads {h : Heap} : ∀ {vs : List Value} {ds : List D} {as : List Addr}, ReadsAll h vs ds as → EachIs (fun v b => ∃ as, Reads h v b as) vs ds
  | _, [], _, r => by cases r; exact .nil
  | _, d :: ds, _, r => by
    cases r with
    | cons r1 r2 => exact .cons ⟨_, r1⟩ (eachIs_reads r2)
/-- sorted(xs), xs a list of data of one kind -/
def rSortedD (K : PySem.W.Frag) : List V → Hp → VK → Prop := fun vs H Q => ∃ (a : Addr) (xs : List V) (ds : List D) (P : V → D → Prop), vs = [V.ref a] ∧ SqL K H a xs ∧ DpAll K H xs ds ∧ EachIs P xs ds ∧ AllAlike ds ∧ Sortable ds ∧ (∀ d ∈ ds, d.depth ≤ 60) ∧
  ∀ ys p, EachIs P ys (ds.mergeSort (dataLe false id)) → H p = none → Q (.ref p) (upd H p (.lst ys))
theorem cr_sortedD (hu : X.A.units + 65 < cLine) : CallR X (.builtin "sorted") (rSortedD X.K) := by
  intro pins s σ H vs us Q I r h
  obtain ⟨a, xs, ds, P, rfl, hs, hd, he, hal, hk, hp, q⟩ := h
  obtain ⟨its, rv, hl, hz⟩ := I.list hs
  rw [Vals.ref1 r]
  obtain ⟨as, hr⟩ := Dp.readsAll I ds xs its hd rv
  have hlen : ds.length = its.length := (SeqAt.ReadsAll.length ds its as hr).symm
  have el := (eachIs_mk rv he).length
  refine PySem.W.sorted_data (enc := id) (bs := ds) (R := fun v d => ∃ x, RelV x v ∧ P x d) hl.isList (eachIs_mk rv he) (eachIs_reads hr) (by rw [List.map_id]; exact hal) (by rw [List.map_id]; exact hk) (by rw [hlen, ← rv.length]; exact hz) (fun b hb => ?_) fun out h1 h2 => ?_
  · have := hp b hb
    show X.A.units + 2 + b.depth < cLine
    omega
  · obtain ⟨ys, ry, ey⟩ := eachIs_vals h2
    obtain ⟨ep, he'⟩ := PyProof.Rows.sortedAll_at s.heap its (List.toArray out)
    have hyl : ys.length ≤ sizeLine := by
      rw [ry.length, h1, hlen, ← rv.length]; exact hz
    exact ⟨.ref _, upd H (s.heap.objs.size + 1) (.lst ys), I.laid (t' := s.toks) (fun _ _ => PyProof.Rows.sortedAll_old) (Nat.le_succ _) ⟨hyl, out, ep, ry, he'⟩, rfl, q ys _ ey (I.hok.fresh (Nat.le_succ _))⟩
end
section
variable {K : PySem.W.Frag} {ρ : List Sl} {E : XK} {P : Post} {ta tb te : TE} {tu : TS}
theorem ev_cmpD {f : D → D → Bool} {d e : D} (ha : EvD K ta ρ d) (hb : EvD K tb ρ e) (hl : alike d e = true) (hn : d ≠ .none) (hp : d.depth ≤ 60) : EvD K (tOp (rCmpD K f) ta tb) ρ (.bool (f d e)) :=
  ev_op ha hb fun x y F H fh hx hy Q q => ⟨d, e, (Dv.up hx fh).toDp, (Dv.up hy fh).toDp, hl, hn, hp, q _ F H (.refl fh) (.bl _)⟩
theorem ev_inD {d : D} {ds : List D} (ha : EvD K ta ρ d) (hb : EvD K tb ρ (.list ds)) (sd : SeqAt.shaped d = true) (se : SeqAt.shaped (.list ds) = true) : EvD K (tOp (rInD K) ta tb) ρ (.bool (ds.any fun z => PyData.eqv z d)) :=
  ev_op ha hb fun x y F H fh hx hy Q q => ⟨d, ds, (Dv.up hx fh).toDp, (Dv.up hy fh).toDp, sd, se, q _ F H (.refl fh) (.bl _)⟩
theorem ev_notInD {d : D} {ds : List D} (ha : EvD K ta ρ d) (hb : EvD K tb ρ (.list ds)) (sd : SeqAt.shaped d = true) (se : SeqAt.shaped (.list ds) = true) : EvD K (tOp (rNotInD K) ta tb) ρ (.bool (!ds.any fun z => PyData.eqv z d)) :=
  ev_op ha hb fun x y F H fh hx hy Q q => ⟨d, ds, (Dv.up hx fh).toDp, (Dv.up hy fh).toDp, sd, se, q _ F H (.refl fh) (.bl _)⟩
theorem dvAll_each {F : Hp} : ∀ {ds : List D} {xs : List V}, DvAll F xs ds → EachIs (Dv F) xs ds
  | _, _, .nil => .nil
  | _, _, .cons h t => .cons h (dvAll_each t)
theorem each_dvAll {F : Hp} : ∀ {ds : List D} {xs : List V}, EachIs (Dv F) xs ds → DvAll F xs ds
  | _, _, .nil => .nil
  | _, _, .cons h t => .cons h (each_dvAll t)
theorem rc_sorted {ds : List D} (hal : AllAlike ds) (hk : Sortable ds) (hp : ∀ d ∈ ds, d.depth ≤ 60) : RC K (rSortedD K) [.fz (.list ds)] (.ow (ds.mergeSort (dataLe false id))) := fun vs F H fh g Q q => by
  obtain ⟨v, rfl, h⟩ := g.one
  cases h with
  | lst hs ha =>
    exact ⟨_, _, ds, Dv F, rfl, .inl (.inl (fh _ _ hs)), (DvAll.up ha fh).toDp, dvAll_each ha, hal, hk, hp, fun ys p hy hpn => q _ F _ (.own fh hpn) ⟨p, _, rfl, ⟨hpn, fh.back hpn⟩, upd_same, each_dvAll hy⟩⟩
/-- a slice of a read-only sequence of ints -/
theorem dvInts {F : Hp} {ns : List Int} : DvAll F (ns.map V.int) (iL ns) := DvAll.iL ns
theorem cutV_ints (ns : List Int) (lo hi : Option Int) : cutV (ns.map V.int) lo hi = (cutI ns lo hi).map V.int := by
  unfold cutV cutI
  rw [List.length_map, List.map_take, List.map_drop]
theorem ev_slS {tl th : TO} {ns : List Int} {lo hi : Option Int} (h : EvR K te ρ (.sq (ns.map V.int))) (h1 : EvO K tl ρ lo) (h2 : EvO K th ρ hi) : EvR K (tSl (rSlL K) te tl th) ρ (.ow (iL (cutI ns lo hi))) := fun F0 H0 F H σ c Q q =>
  h F0 H0 F H σ c _ fun v F1 H1 e1 g => h1 F0 H0 F1 H1 σ (c.up e1) _ fun F2 H2 e2 => h2 F0 H0 F2 H2 σ ((c.up e1).up e2) _ fun F3 H3 e3 => by
    have e := (e1.trans e2).trans e3
    obtain ⟨a, rfl, hs⟩ := g
    refine ⟨_, _, rfl, e.fh.sqL (e3.ff.sqL (e2.ff.sqL hs)), fun p hp => q _ F3 _ (e.trans (.own e.fh hp)) ⟨p, _, rfl, ⟨e.hh.back hp, e.fh.back hp⟩, upd_same, ?_⟩⟩
    rw [cutV_ints]
    exact dvInts
/-- for a, b, .. in xs, xs a list of tuples -/
theorem s_forLT {tl : TE} {n : Nat} {g : TGs} {ds : List Ed.D} (fl : List Nat) (h : EvD K tl ρ (.list ds)) (I : Nat → List Sl → Prop) (h0 : I 0 ρ)
    (hs : ∀ i d ρ', ds[i]? = some d → I i ρ' → ∃ es ρ'', d = .tuple es ∧ es.length = n ∧ Gs K g es ρ' ρ'' ∧ Run K E tu ρ'' { P with nx := fun r => I (i + 1) (forget fl r), bk := P.nx, ct := fun r => I (i + 1) (forget fl r) })
    (hd : ∀ ρ', I ds.length ρ' → P.nx ρ') : Run K E (tFor (iList K tl) (gTup K n g) tu) ρ P := fun F0 H0 F H σ D c nn r b t x =>
  h F0 H0 F H σ c _ fun v F1 H1 e1 gv => by
    have g' : Dv F1 v (.list ds) := gv
    cases g' with
    | lst hx ha =>
      rename_i a xs
      refine ⟨a, rfl, ⟨xs, .inl (.inl (e1.fh _ _ hx))⟩, for_list (K := K) (a := a) (xs := xs) (fun i σ' H' => ∃ F' ρ', Cfg K F0 H0 F' H' σ' ρ' ∧ Ex F1 F' ∧ I i ρ') ⟨F1, ρ, c.up e1, .refl _, h0⟩ ?_ ?_ ?_⟩
      · rintro i σ' H' _ ⟨F', ρ', c', ef, _⟩
        exact .inl (.inl (c'.ex.fh _ _ (ef _ _ hx)))
      · rintro i y σ' H' hi ⟨F', ρ', c', ef, hI⟩
        obtain ⟨d, hd1, hd2⟩ := ha.getV hi
        obtain ⟨es, ρ'', rfl, hn, hg, hrun⟩ := hs i d ρ' hd1 hI
        have hd3 := hd2.up ef
        cases hd3 with
        | tup ht hta =>
          refine ⟨_, _, rfl, .inl (.inl (c'.ex.fh _ _ ht)), by rw [hta.len]; exact hn, hg F0 H0 F' H' σ' _ c' hta _ fun σ2 c2 => ?_⟩
          refine hrun F0 H0 F' H' _ _ c2 ?_ r ?_ ?_ x
          · intro F'' H'' σ'' ρ3 f'' c'' hI''
            exact ⟨F'', forget fl ρ3, c''.forget fl, ef.trans f'', hI''⟩
          · exact fun F'' H'' σ'' ρ3 f'' c'' => nn F'' H'' σ'' ρ3 ((e1.ff.trans ef).trans f'') c''
          · intro F'' H'' σ'' ρ3 f'' c'' hI''
            exact ⟨F'', forget fl ρ3, c''.forget fl, ef.trans f'', hI''⟩
      · rintro σ' H' ⟨F', ρ', c', ef, hI⟩
        rw [ha.len] at hI
        exact nn F' H' σ' ρ' (e1.ff.trans ef) c' (hd ρ' hI)
end
end Ed

namespace Ed
open PySem PySem.Spec PyProof.Rows L2

/-! ## one value under two names -/
/-- the very value v, wholly new, and owned here -/
def alP (K : PySem.W.Frag) (v : V) (d : D) : SlP where
  φ := fun G F H x => x = v ∧ VG K G F H x (.pv d)
  up := fun h ef eh => ⟨h.1, VG.up (s := .pv d) h.2 ef eh⟩
section
variable {K : PySem.W.Frag} {ρ : List Sl} {E : XK} {P : Post} {ta te : TE} {tu : TS}
/-- slot i's word is told otherwise -/
theorem Cfg.tell {F0 H0 F H : Hp} {σ : L2.St} (c : Cfg K F0 H0 F H σ ρ) {i : Nat} {s s' : Sl} (hi : ρ[i]? = some s) (hP : ∀ G : Addr → Prop, SOk K G F H (σ[i]?) s → SOk K G F H (σ[i]?) s') : Cfg K F0 H0 F H σ (ρ.set i s') := by
  obtain ⟨O, o1, o2, o3⟩ := c.sl
  refine ⟨c.ex, by simp [c.len], O, o1, o2, fun j t e => ?_⟩
  rw [set_get] at e
  by_cases hij : i = j
  · rw [if_pos hij] at e
    split at e
    · cases e; subst hij; exact hP _ (o3 i s hi)
    · cases e
  · rw [if_neg hij] at e
    exact o3 j t e
theorem Cfg.sig {F0 H0 F H : Hp} {σ : L2.St} (c : Cfg K F0 H0 F H σ ρ) {i : Nat} {v : V} (h : σ[i]? = some (some v)) : σ.set i (some v) = σ := by
  refine List.ext_getElem? fun j => ?_
  rw [List.getElem?_set]
  split
  · rename_i e; subst e
    rw [h]
    split
    · rfl
    · rename_i hn
      rw [List.getElem?_eq_none (by omega)] at h; cases h
  · rfl
/-- y = x, where x is wholly new: x keeps what it owns -/
theorem s_setAl {i j : Nat} {d : D} (hi : ρ[i]? = some (.pv d)) (hij : i ≠ j) (k : ∀ v, P.nx ((ρ.set i (.ab (alP K v d))).set j (.is v))) : Run K E (tAsg (tVar i) (gName j)) ρ P := fun F0 H0 F H σ D c n _ _ _ _ => by
  obtain ⟨v, h1, h2⟩ := c.get hi nofun
  refine ⟨v, h1, ?_⟩
  have c1 : Cfg K F0 H0 F H σ (ρ.set i (.ab (alP K v d))) := c.tell hi fun G h => by
    obtain ⟨w, g1, g2⟩ := h
    rw [h1] at g1
    cases g1
    exact ⟨v, h1, rfl, g2⟩
  exact n F H _ _ (.refl F) (c1.setIs j v) (k v)
theorem alP_pv {G : Addr → Prop} {F H : Hp} {o : Option (Option V)} {v : V} {d : D} (h : SOk K G F H o (.ab (alP K v d))) : SOk K G F H o (.pv d) := by
  obtain ⟨w, h1, h2, h3⟩ := h
  exact ⟨w, h1, h3⟩
theorem Cfg.unAl {F0 H0 F H : Hp} {σ : L2.St} (c : Cfg K F0 H0 F H σ ρ) {i : Nat} {v : V} {d : D} (hi : ρ[i]? = some (.ab (alP K v d))) : Cfg K F0 H0 F H σ (ρ.set i (.pv d)) := c.tell hi fun G h => alP_pv h
/-- the other name takes over what is owned -/
theorem Cfg.mvAl {F0 H0 F H : Hp} {σ : L2.St} (c : Cfg K F0 H0 F H σ ρ) {i j : Nat} {v : V} {d : D} (hi : ρ[i]? = some (.ab (alP K v d))) (hj : ρ[j]? = some (.is v)) (hij : i ≠ j) : Cfg K F0 H0 F H σ ((ρ.set i .no).set j (.pv d)) := by
  obtain ⟨O, o1, o2, o3⟩ := c.sl
  refine ⟨c.ex, by simp [c.len], fun k a => (k = j ∧ O i a) ∨ (k ≠ i ∧ k ≠ j ∧ O k a), ⟨fun k l a hk hl => ?_, fun k a hk => ?_⟩, fun k a hk => ?_, fun k t ht => ?_⟩
  · rcases hk with ⟨rfl, hk⟩ | ⟨k1, k2, hk⟩
    · rcases hl with ⟨rfl, hl⟩ | ⟨l1, l2, hl⟩
      · rfl
      · exact absurd (o1.one _ _ a hl hk) l1
    · rcases hl with ⟨rfl, hl⟩ | ⟨l1, l2, hl⟩
      · exact absurd (o1.one _ _ a hk hl) k1
      · exact o1.one _ _ a hk hl
  · rcases hk with ⟨rfl, hk⟩ | ⟨k1, k2, hk⟩
    · exact o1.new _ _ hk
    · exact o1.new _ _ hk
  · rcases hk with ⟨rfl, hk⟩ | ⟨k1, k2, hk⟩
    · exact o2 _ _ hk
    · exact o2 _ _ hk
  · rw [set_get] at ht
    by_cases hjk : j = k
    · subst hjk
      rw [if_pos rfl] at ht
      split at ht
      · cases ht
        obtain ⟨w, g1, g2, g3⟩ := o3 i _ hi
        obtain ⟨w', g1', g2'⟩ := o3 j _ hj
        have g2' : w' = v := g2'
        subst g2'
        obtain ⟨Pv, p1, p2⟩ := g3
        rw [g2] at p2
        exact ⟨w', g1', Pv, fun a o z => ⟨.inl ⟨rfl, (p1 a o z).1⟩, (p1 a o z).2⟩, p2⟩
      · cases ht
    · rw [if_neg hjk, set_get] at ht
      by_cases hik : i = k
      · rw [if_pos hik] at ht
        split at ht
        · cases ht; trivial
        · cases ht
      · rw [if_neg hik] at ht
        exact (o3 k t ht).up (.refl F) fun a o g ho => ⟨.inr ⟨fun z => hik z.symm, fun z => hjk z.symm, g⟩, ho⟩
/-- a wholly new value that a slot holds is read in passing -/
theorem ev_passP {i : Nat} {d : D} {r : Sl} (hi : ρ[i]? = some (.pv d)) (h : EvR K te (ρ.set i (.fz d)) r) (hp : plain r = true) : EvR K te ρ r := fun F0 H0 F H σ c Q q => by
  obtain ⟨F1, f1, f2, c1⟩ := c.frzP hi
  refine h F0 H0 F1 H σ c1 Q fun v F' H' e g => ?_
  refine q v F H' ⟨e.hh, .refl F, c.ex.fh.trans e.hh, fun a o z => .inl ⟨o, z⟩⟩ ?_
  cases r with
  | no => cases hp
  | sq _ => cases hp
  | fz d => exact Dv.atom g hp
  | ow es =>
    obtain ⟨p, xs, h1, ⟨h2, h3⟩, h4, h5⟩ := g
    exact ⟨p, xs, h1, ⟨h2, c.ex.fh.back h2⟩, h4, h5.atoms hp⟩
  | rg _ _ => cases hp
  | is _ => cases hp
  | ab _ => cases hp
  | pv d =>
    obtain ⟨P, h1, h2⟩ := g
    exact ⟨P, fun a o z => ⟨⟨(h1 a o z).1.1, c.ex.fh.back (h1 a o z).1.1⟩, (h1 a o z).2⟩, h2⟩
/-- x = e, where y is another name of x's value, which e reads: y takes it over -/
theorem s_mvAl {i j : Nat} {v : V} {d e : D} (hi : ρ[i]? = some (.ab (alP K v d))) (hj : ρ[j]? = some (.is v)) (hij : i ≠ j) (h : EvR K te (ρ.set i (.fz d)) (.pv e)) (k : P.nx (((ρ.set i .no).set j (.pv d)).set i (.pv e))) : Run K E (tAsg te (gName i)) ρ P := fun F0 H0 F H σ D c n _ _ _ _ => by
  have hl : i < ρ.length := (List.getElem?_eq_some_iff.mp hi).1
  have ci := c.unAl hi
  have hi2 : (ρ.set i (.pv d))[i]? = some (.pv d) := by rw [set_get, if_pos rfl, if_pos hl]
  have h2 : EvR K te ((ρ.set i (.pv d)).set i (.fz d)) (.pv e) := by rw [List.set_set]; exact h
  have h3 := ev_passP hi2 h2 rfl
  have c2 := c.mvAl hi hj hij
  exact h3 F0 H0 F H σ ci _ fun w F' H' ex g => n F' H' _ _ ex.ff (c2.setR ex i g) k
/-! ## calls that raise -/
/-- the expression ends in an exception of the class C -/
def ExX (K : PySem.W.Frag) (E : XK) (te : TE) (ρ : List Sl) (C : Value) : Prop := ∀ F0 H0 F H σ, Cfg K F0 H0 F H σ ρ → ∀ Q : VK, (∀ F' H', Ext F H F' H' → E C none H') → te σ H Q
theorem ex_call {R : List Sl → Res → Prop} {t : TA} {rs : List Sl} {C : Value} (h : EvA K t ρ rs) (hR : R rs (.exc C)) : ExX K E (tCallS (SpR K R) (fun _ => E) t) ρ C := fun F0 H0 F H σ c Q q =>
  h F0 H0 F H σ c _ fun vs F1 H1 e1 gs => ⟨F1, rs, .exc C, e1.fh, gs, hR, fun F2 H2 e2 => q F2 H2 (e1.trans e2)⟩
theorem ex_arg {sp : Sp} {E' : L2.St → XK} {t : TA} {C : Value} (h : ExX K E te ρ C) : ExX K E (tCallS sp E' (tCons te t)) ρ C := fun F0 H0 F H σ c Q q => h F0 H0 F H σ c _ q
theorem ex_passP {i : Nat} {d : D} {C : Value} (hi : ρ[i]? = some (.pv d)) (h : ExX K E te (ρ.set i (.fz d)) C) : ExX K E te ρ C := fun F0 H0 F H σ c Q q => by
  obtain ⟨F1, f1, f2, c1⟩ := c.frzP hi
  exact h F0 H0 F1 H σ c1 Q fun F' H' e => q F H' ⟨e.hh, .refl F, c.ex.fh.trans e.hh, fun a o z => .inl ⟨o, z⟩⟩
theorem ex_al {i : Nat} {v : V} {d : D} {C : Value} (hi : ρ[i]? = some (.ab (alP K v d))) (h : ExX K E te (ρ.set i (.fz d)) C) : ExX K E te ρ C := fun F0 H0 F H σ c Q q => by
  have hl : i < ρ.length := (List.getElem?_eq_some_iff.mp hi).1
  exact ex_passP (ρ := ρ.set i (.pv d)) (i := i) (d := d) (by rw [set_get, if_pos rfl, if_pos hl]) (by rw [List.set_set]; exact h) F0 H0 F H σ (c.unAl hi) Q q
theorem s_asgX {i : Nat} {C : Value} (h : ExX K E te ρ C) (k : P.xs C) : Run K E (tAsg te (gName i)) ρ P := fun F0 H0 F H σ D c _ _ _ _ x => h F0 H0 F H σ c _ fun F' H' e => x C F' H' (c.ex.trans e) k
theorem s_retX {C : Value} (h : ExX K E te ρ C) (k : P.xs C) : Run K E (tRet te) ρ P := fun F0 H0 F H σ D c _ _ _ _ x => h F0 H0 F H σ c _ fun F' H' e => x C F' H' (c.ex.trans e) k
/-- the name that holds its own value again -/
theorem run_unAl {i : Nat} {v : V} {d : D} (hi : ρ[i]? = some (.ab (alP K v d))) (h : Run K E tu (ρ.set i (.pv d)) P) : Run K E tu ρ P := fun F0 H0 F H σ D c => h F0 H0 F H σ D (c.unAl hi)
end
section
variable {X : Cx} {x : Str} {ps : List Str} {k j : Nat} {sp : Sp} {pos p : Pos} {e : Expr} {es : List Expr} {t : TA} {E : XK}
/-- a def that may raise, called by one that lets it out -/
theorem pe_calX (c : Cal X.prog X.w X.K X.mg X.base (L2.CX X.prog X.w) x ps j sp) (hr : Room k X.A) (hG : X.A.guards = some []) (hjk : j ≤ k) (hg : Gl X x) (tk : Takes X (fun cls d _ H => E cls d H)) (ha : PA X (e :: es) t) (hdb : (x == ("__debug__" : Str)) = false := by decide)
    (he : starEach (e :: es) X.env = (false, eval e X.env) :: starEach es X.env := by rfl) (hpl : (backTo pos (starEach es X.env)).any (·.1) = false := by rfl) : PE X (.Call (.Name x p) (e :: es) [] pos) (tCallS sp (fun _ => E) t) :=
  pe_calS c hr hG hjk hg (fun σ => passAt tk σ) ha hdb he hpl
end

section
variable {K : PySem.W.Frag} {ρ : List Sl} {ta : TE}
theorem rgV_int (n : Nat) : rgV 0 (n : Int) = ((List.range n).map fun (k : Nat) => (k : Int)).map V.int := by
  unfold rgV
  rw [List.map_map, show ((n : Int) - 0).toNat = n by omega]
  refine List.map_congr_left fun k _ => ?_
  show V.int (0 + (k : Int)) = V.int (k : Int)
  rw [Int.zero_add]
theorem dv_ints (F : Hp) : ∀ xs : List Int, DvAll F (xs.map V.int) (iL xs)
  | [] => .nil
  | x :: r => .cons (.int x) (dv_ints F r)
theorem ev_listRg {n : Nat} (h : EvI K ta ρ (n : Int)) (hn : n ≤ 100000) : EvR K (tLstRg (tRg1 ta)) ρ (.ow (iL ((List.range n).map fun (k : Nat) => (k : Int)))) := fun F0 H0 F H σ c Q q =>
  h F0 H0 F H σ c _ fun v F1 H1 e1 g => by
    have g' : v = .int (n : Int) := Dv.int_eq g
    subst g'
    refine ⟨(n : Int), rfl, ⟨by omega, by omega, by omega, by omega, by rw [show ((n : Int) - 0).toNat = n by omega]; have := small100' hn; exact this⟩, fun p hp => q _ F1 _ (e1.trans (.own e1.fh hp)) ⟨p, _, rfl, ⟨e1.hh.back hp, e1.fh.back hp⟩, upd_same, ?_⟩⟩
    rw [rgV_int]
    exact dv_ints _ _
end
/-! ## rounds of a step that may be refused -/
section
variable {α : Type} (f : α → Option α)
def go : Nat → α → Option α
  | 0, x => some x
  | n + 1, x => (f x).bind (go n)
theorem go_add : ∀ a b x, go f (a + b) x = (go f a x).bind (go f b)
  | 0, b, x => by rw [Nat.zero_add]; rfl
  | a + 1, b, x => by
    rw [Nat.add_right_comm]
    show (f x).bind (go f (a + b)) = ((f x).bind (go f a)).bind (go f b)
    cases f x with
    | none => rfl
    | some y => exact go_add a b y
theorem go_one (x : α) : go f 1 x = f x := by
  show (f x).bind (go f 0) = f x
  cases f x <;> rfl
theorem go_snoc (n : Nat) (x : α) : go f (n + 1) x = (go f n x).bind f := by
  rw [go_add]
  congr 1
  funext y
  exact go_one f y
theorem go_round {d : Nat} {x : α} (h : go f d x = some x) : ∀ n, go f n x = go f (n % d) x := fun n => by
  by_cases hd : d = 0
  · subst hd; rw [Nat.mod_zero]
  have key : ∀ k m, go f (k * d + m) x = go f m x := fun k m => by
    induction k with
    | zero => rw [Nat.zero_mul, Nat.zero_add]
    | succ k ih =>
      rw [show (k + 1) * d + m = d + (k * d + m) by rw [Nat.add_mul]; omega, go_add, h]
      exact ih
  have e : n / d * d + n % d = n := by rw [Nat.mul_comm]; exact Nat.div_add_mod n d
  have := key (n / d) (n % d)
  rw [e] at this
  exact this
/-- where the search for rounds stands -/
structure PIv (e : Nat) (x0 r mk : α) (marked step : Nat) : Prop where
  ms : marked ≤ step
  se : step ≤ e
  fin : go f (e - step) r = go f e x0
  rg : (go f (step - marked) mk = some r ∧ ∀ i, 0 < i → i ≤ step - marked → go f i mk ≠ some mk) ∨ (∃ d j, (∀ i, 0 < i → i < d → go f i mk ≠ some mk) ∧ go f j mk = some r ∧ j + (e - step) < d)
variable {f}
theorem PIv.start (e : Nat) (x0 : α) : PIv f e x0 x0 x0 0 0 := ⟨Nat.le_refl _, Nat.zero_le _, rfl, .inl ⟨rfl, fun i h1 h2 => by omega⟩⟩
theorem PIv.no {e : Nat} {x0 r mk : α} {marked step : Nat} (h : PIv f e x0 r mk marked step) (hs : step < e) (hn : f r = none) : go f e x0 = none := by
  have q := h.fin
  rw [show e - step = (e - step - 1) + 1 by omega] at q
  rw [← q]
  show (f r).bind _ = none
  rw [hn]; rfl
theorem PIv.nxt {e : Nat} {x0 r mk y : α} {marked step : Nat} (h : PIv f e x0 r mk marked step) (hs : step < e) (hy : f r = some y) : go f (e - (step + 1)) y = go f e x0 := by
  have q := h.fin
  rw [show e - step = (e - (step + 1)) + 1 by omega] at q
  rw [← q]
  show _ = (f r).bind _
  rw [hy]; rfl
theorem PIv.jump {e : Nat} {x0 r mk : α} {marked step : Nat} (h : PIv f e x0 r mk marked step) (hs : step < e) (hy : f r = some mk) :
    PIv f e x0 mk mk marked (e - (e - (step + 1)) % (step + 1 - marked)) ∧ (e - (step + 1)) % (step + 1 - marked) ≤ e - (step + 1) := by
  have hm := h.ms
  have n := h.nxt hs hy
  have hle := Nat.mod_le (e - (step + 1)) (step + 1 - marked)
  refine ⟨?_, hle⟩
  rcases h.rg with ⟨g1, g2⟩ | ⟨d, j, g1, g2, g3⟩
  · have rd : go f (step + 1 - marked) mk = some mk := by
      rw [show step + 1 - marked = (step - marked) + 1 by omega, go_snoc, g1]
      exact hy
    have hd : 0 < step + 1 - marked := by omega
    have hlt := Nat.mod_lt (e - (step + 1)) hd
    rw [go_round f rd] at n
    generalize (e - (step + 1)) % (step + 1 - marked) = q at hle hlt n
    refine ⟨by omega, by omega, ?_, .inr ⟨step + 1 - marked, 0, fun i h1 h2 => g2 i h1 (by omega), rfl, by omega⟩⟩
    rw [show e - (e - q) = q by omega]
    exact n
  · exfalso
    refine g1 (j + 1) (by omega) (by omega) ?_
    rw [go_snoc, g2]
    exact hy
theorem PIv.on {e : Nat} {x0 r mk y : α} {marked step : Nat} (h : PIv f e x0 r mk marked step) (hs : step < e) (hy : f r = some y) (hne : y ≠ mk) : PIv f e x0 y mk marked (step + 1) := by
  have hm := h.ms
  refine ⟨by omega, by omega, h.nxt hs hy, ?_⟩
  rcases h.rg with ⟨g1, g2⟩ | ⟨d, j, g1, g2, g3⟩
  · have e1 : go f (step + 1 - marked) mk = some y := by
      rw [show step + 1 - marked = (step - marked) + 1 by omega, go_snoc, g1]
      exact hy
    refine .inl ⟨e1, fun i h1 h2 => ?_⟩
    by_cases hi : i = step + 1 - marked
    · rw [hi, e1]
      exact fun z => hne (Option.some.inj z)
    · exact g2 i h1 (by omega)
  · refine .inr ⟨d, j + 1, g1, ?_, by omega⟩
    rw [go_snoc, g2]
    exact hy
theorem PIv.mark {e : Nat} {x0 r mk y : α} {marked step : Nat} (h : PIv f e x0 r mk marked step) (hs : step < e) (hy : f r = some y) : PIv f e x0 y y (step + 1) (step + 1) :=
  ⟨Nat.le_refl _, by omega, h.nxt hs hy, .inl ⟨by rw [Nat.sub_self]; rfl, fun i h1 h2 => by omega⟩⟩
end

/-! ## powers and shifts -/
def idT (s : Int) : List Int := (List.range s.toNat).map fun (k : Nat) => (k : Int)
def shM (s p : Int) : MS := (p, 1, idT s)
def stOk (s : Int) (m r : MS) : Prop := cmpOk s s r m ∧ (-100 ≤ (nar s (comp s r m)).1 ∧ (nar s (comp s r m)).1 ≤ 100)
instance (s : Int) (m r : MS) : Decidable (stOk s m r) := inferInstanceAs (Decidable (_ ∧ _ ∧ _))
/-- one more step -/
def pst (s : Int) (m r : MS) : Option MS := if stOk s m r then some (nar s (comp s r m)) else none
def pow (s : Int) (m : MS) (n : Nat) : Option MS := go (pst s m) n (shM s 0)
def pwR (C : Addr) (s : Int) (m : MS) (e : Int) : Res := if e < 0 then .exc (.ref C) else
  match pow s m e.toNat with
  | none => .exc (.ref C)
  | some r => .val (.pv (msC s r))
def shR (C : Addr) (s p : Int) : Res := if (2 ≤ s ∧ s ≤ 4) ∧ (-100 ≤ p ∧ p ≤ 100) then .val (.pv (msC s (shM s p))) else .exc (.ref C)
inductive R_shift_map (C : Addr) : List Sl → Res → Prop
  | mk (s p : Int) : R_shift_map C [.fz (.int s), .fz (.int p)] (shR C s p)
inductive R_power (C : Addr) : List Sl → Res → Prop
  | mk (s : Int) (m : MS) (e : Int) (tm : Tm s m) : R_power C [.fz (msC s m), .fz (.int e)] (pwR C s m e)
theorem idT_len (s : Int) : (idT s).length = s.toNat := by unfold idT; rw [List.length_map, List.length_range]
theorem shM_tb {s : Int} (hs : 2 ≤ s ∧ s ≤ 4) (p : Int) : Tm s (shM s p) := by
  refine ⟨hs, Nat.le_refl _, ?_, ?_, inR_rangeMap fun k hk => by omega⟩
  · show ((idT s).length : Int) = s ^ 1
    rw [idT_len, Int.pow_one]; omega
  · show (idT s).length ≤ 4096
    rw [idT_len]; omega
theorem pst_yes {s : Int} {m r : MS} (ok : stOk s m r) : pst s m r = some (nar s (comp s r m)) := by unfold pst; rw [if_pos ok]
theorem pst_no {s : Int} {m r : MS} (ok : ¬ stOk s m r) : pst s m r = none := by unfold pst; rw [if_neg ok]
theorem pst_tb {s : Int} {m r y : MS} (tm : Tm s m) (tr : Tm s r) (h : pst s m r = some y) : Tm s y := by
  by_cases ok : stOk s m r
  · rw [pst_yes ok] at h
    have h := Option.some.inj h
    rw [← h]
    exact (nar_ok (comp_Tb tr tm ok.1.2.1)).1.tb
  · rw [pst_no ok] at h
    exact nomatch h
end Ed

namespace Ed
open PySem PySem.Spec PyProof.Rows L2

/-! ## maps of one cell -/
theorem rv1 {s o : Int} {t : List Int} {x : Int → Int} : rv s (o, 1, t) x = getI t (x o).toNat := by
  unfold rv
  show getI t (lawIndex [x (o + (0 : Nat))] s).toNat = _
  have e : lawIndex [x (o + ((0 : Nat) : Int))] s = x o := by show 0 * s + x (o + 0) = x o; rw [Int.add_zero]; omega
  rw [e]
theorem st1_one {s : Int} {o : Int} {t : List Int} : st1 s (o, 1, t) = (o, 1, t) := if_neg fun z => by have z1 : 1 < 1 := z.1; omega
theorem st2_one {s : Int} {o : Int} {t : List Int} : st2 s (o, 1, t) = (o, 1, t) := if_neg fun z => by have z1 : 1 < 1 := z.1; omega
theorem nar_stay {s : Int} {m : MS} (h1 : st1 s m = m) (h2 : st2 s m = m) : nar2 s m = m := by
  have a : nar1 s m = m := by unfold nar1; exact itA_fix h1 20
  unfold nar2
  rw [a]
  exact itA_fix h2 20
theorem nar_def (s : Int) (m : MS) : nar s m = if (nar2 s m).2.1 = 1 ∧ (nar2 s m).2.2 = List.replicate s.toNat (getI (nar2 s m).2.2 0) then (0, (nar2 s m).2) else nar2 s m := rfl
theorem nar_one0 {s : Int} {t : List Int} : nar s (0, 1, t) = (0, 1, t) := by
  rw [nar_def, nar_stay st1_one st2_one]
  split <;> rfl
theorem nar_sh {s : Int} (hs : 2 ≤ s) (p : Int) : nar s (shM s p) = shM s p := by
  unfold shM
  rw [nar_def, nar_stay st1_one st2_one]
  split
  · rename_i h
    exfalso
    have h2 : idT s = List.replicate s.toNat (getI (idT s) 0) := h.2
    have e0 : getI (idT s) 0 = 0 := getI_of (by unfold idT; rw [List.getElem?_map, List.getElem?_range (by omega)]; rfl)
    have e1 : (idT s)[1]? = some 1 := by unfold idT; rw [List.getElem?_map, List.getElem?_range (by omega)]; rfl
    rw [h2, e0, List.getElem?_replicate, if_pos (by omega)] at e1
    cases e1
  · rfl
/-- width one after width one -/
theorem comp_one {s o o' : Int} {f g : List Int} (tf : Tb s 1 f) : comp s (o, 1, f) (o', 1, g) = (o + o', 1, f.map fun c => getI g c.toNat) := by
  have hl := tf.hl
  rw [Int.pow_one] at hl
  show (o + o', 1, (List.range (s ^ 1).toNat).map fun (k : Nat) => getI g (imgNo s 1 f 1 k).toNat) = _
  congr 2
  rw [Int.pow_one]
  refine List.ext_getElem? fun k => ?_
  by_cases hk : k < f.length
  · rw [List.getElem?_map, List.getElem?_range (by omega), List.getElem?_map, getI_at hk]
    show some (getI g (imgNo s 1 f 1 k).toNat) = some (getI g (getI f k).toNat)
    rw [imgNo_zero tf hk]
  · rw [List.getElem?_eq_none (by rw [List.length_map, List.length_range]; omega), List.getElem?_eq_none (by rw [List.length_map]; omega)]
theorem idT_get {s : Int} {c : Int} (h : 0 ≤ c ∧ c < s) : getI (idT s) c.toNat = c := by
  refine getI_of ?_
  unfold idT
  rw [List.getElem?_map, List.getElem?_range (by omega)]
  show some ((c.toNat : Nat) : Int) = some c
  congr 1; omega
theorem map_id {s : Int} {f : List Int} (h : InR s f) : (f.map fun c => getI (idT s) c.toNat) = f := by
  refine (List.map_congr_left fun c hc => ?_).trans (List.map_id f)
  exact idT_get (h c hc)
theorem comp_sh {s : Int} (hs : 2 ≤ s ∧ s ≤ 4) (a p : Int) : comp s (shM s a) (shM s p) = shM s (a + p) := by
  have tb : Tb s 1 (idT s) := shM_tb hs 0
  unfold shM
  rw [comp_one tb, map_id tb.hc]
theorem pst_sh {s : Int} (hs : 2 ≤ s ∧ s ≤ 4) (a p : Int) : pst s (shM s p) (shM s a) = if -100 ≤ a + p ∧ a + p ≤ 100 then some (shM s (a + p)) else none := by
  have e : comp s (shM s a) (shM s p) = shM s (a + p) := comp_sh hs a p
  by_cases h : -100 ≤ a + p ∧ a + p ≤ 100
  · rw [if_pos h, pst_yes, e, nar_sh hs.1]
    refine ⟨⟨rfl, ?_, h⟩, ?_⟩
    · show s ^ 1 ≤ 4096
      rw [Int.pow_one]; omega
    · rw [e, nar_sh hs.1]; exact h
  · rw [if_neg h, pst_no]
    exact fun z => h z.1.2.2
theorem pow_sh {s : Int} (hs : 2 ≤ s ∧ s ≤ 4) (p : Int) : ∀ (k : Nat) (a : Int), -100 ≤ a ∧ a ≤ 100 → go (pst s (shM s p)) k (shM s a) = if -100 ≤ a + p * (k : Int) ∧ a + p * (k : Int) ≤ 100 then some (shM s (a + p * (k : Int))) else none
  | 0, a, h => by
    have e : a + p * ((0 : Nat) : Int) = a := by show a + p * 0 = a; rw [Int.mul_zero, Int.add_zero]
    rw [e, if_pos h]; rfl
  | k + 1, a, h => by
    show (pst s (shM s p) (shM s a)).bind (go (pst s (shM s p)) k) = _
    rw [pst_sh hs]
    have e : a + p * ((k + 1 : Nat) : Int) = a + p + p * (k : Int) := by
      rw [Int.natCast_add, Int.mul_add]
      show a + (p * (k : Int) + p * 1) = _
      rw [Int.mul_one]; omega
    rw [e]
    by_cases hc : -100 ≤ a + p ∧ a + p ≤ 100
    · rw [if_pos hc]
      exact pow_sh hs p k (a + p) hc
    · rw [if_neg hc, if_neg]
      · rfl
      · intro z
        rcases Int.lt_or_le p 0 with q | q
        · have : p * (k : Int) ≤ 0 := Int.mul_nonpos_of_nonpos_of_nonneg (by omega) (by omega)
          omega
        · have : 0 ≤ p * (k : Int) := Int.mul_nonneg q (by omega)
          omega
/-- a map of one cell, again and again -/
theorem pow_one {s : Int} {t : List Int} (tb : Tb s 1 t) : ∀ (k : Nat) (f : List Int), Tb s 1 f → go (pst s (0, 1, t)) k (0, 1, f) = some (0, 1, itA (fun f => f.map fun c => getI t c.toNat) k f)
  | 0, f, _ => rfl
  | k + 1, f, tf => by
    show (pst s (0, 1, t) (0, 1, f)).bind (go (pst s (0, 1, t)) k) = _
    have e : comp s (0, 1, f) (0, 1, t) = (0, 1, f.map fun c => getI t c.toNat) := comp_one tf
    have hs := tb.hs
    have tb2 : Tb s 1 (f.map fun c => getI t c.toNat) := by
      refine ⟨hs, Nat.le_refl _, by rw [List.length_map]; exact tf.hl, by rw [List.length_map]; exact tf.hm, fun c hc => ?_⟩
      obtain ⟨d, hd, rfl⟩ := List.mem_map.mp hc
      have b := tf.hc d hd
      have hl := tb.hl
      rw [Int.pow_one] at hl
      exact getI_in tb.hc (by omega)
    rw [pst_yes, e, nar_one0]
    · exact pow_one tb k _ tb2
    · refine ⟨⟨rfl, ?_, by show -100 ≤ (0 : Int) + 0 ∧ (0 : Int) + 0 ≤ 100; decide⟩, ?_⟩
      · show s ^ 1 ≤ 4096
        rw [Int.pow_one]; omega
      · rw [e, nar_one0]; show -100 ≤ (0 : Int) ∧ (0 : Int) ≤ 100; decide
/-! ## round rows under a power -/
theorem round_id {s : Int} {row : List Int} (h : 0 < row.length) (hr : InR s row) : roundImage s 0 1 (idT s) row = row := by
  unfold roundImage
  refine List.ext_getElem? fun k => ?_
  by_cases hk : k < row.length
  · rw [List.getElem?_map, List.getElem?_range hk, getI_at hk]
    have e := round_key (s := s) (row := row) (m := (0, 1, idT s)) (k := (k : Int))
    have e : getI (idT s) (lawIndex (winAt row 1 ((k : Int) + 0)) s).toNat = rv s (0, 1, idT s) fun i => rowAt row ((k : Int) + i) := e
    show some (getI (idT s) (lawIndex (winAt row 1 ((k : Int) + 0)) s).toNat) = some _
    rw [e, rv1, idT_get (rowAt_in h hr _), Int.add_zero]
    congr 1
    unfold rowAt
    rw [Int.emod_eq_of_lt (by omega) (by omega), Int.toNat_natCast]
  · rw [List.getElem?_eq_none (by rw [List.length_map, List.length_range]; omega), List.getElem?_eq_none (by omega)]
def rndN (s : Int) (m : MS) (k : Nat) (row : List Int) : List Int := itA (fun row => roundImage s m.1 m.2.1 m.2.2 row) k row
theorem rndN_snoc (s : Int) (m : MS) (k : Nat) (row : List Int) : rndN s m (k + 1) row = roundImage s m.1 m.2.1 m.2.2 (rndN s m k row) := itA_snoc _ k row
theorem rndN_ok {s : Int} {m : MS} (tm : Tm s m) {row : List Int} (h : 0 < row.length) (hr : InR s row) : ∀ k, (rndN s m k row).length = row.length ∧ InR s (rndN s m k row)
  | 0 => ⟨rfl, hr⟩
  | k + 1 => by
    have ih := rndN_ok tm h hr k
    rw [rndN_snoc]
    exact ⟨(roundImage_len ..).trans ih.1, roundImage_in tm (by rw [ih.1]; exact h) ih.2⟩
theorem go_round_img {s : Int} {m : MS} (tm : Tm s m) {row : List Int} (h : 0 < row.length) (hr : InR s row) : ∀ (k : Nat) (f g : MS), Tm s f → go (pst s m) k f = some g → Tm s g ∧ roundImage s g.1 g.2.1 g.2.2 row = rndN s m k (roundImage s f.1 f.2.1 f.2.2 row)
  | 0, f, g, tf, e => by
    have e := Option.some.inj e
    subst e
    exact ⟨tf, rfl⟩
  | k + 1, f, g, tf, e => by
    have e : (pst s m f).bind (go (pst s m) k) = some g := e
    by_cases ok : stOk s m f
    · rw [pst_yes ok] at e
      have tc : Tm s (comp s f m) := comp_Tb tf tm ok.1.2.1
      have tn := (nar_ok tc).1
      have e : go (pst s m) k (nar s (comp s f m)) = some g := e
      have q := go_round_img tm h hr k _ g tn.tb e
      refine ⟨q.1, q.2.trans ?_⟩
      rw [round_rv h hr tn.rv, round_comp tf tm h hr]
      rfl
    · rw [pst_no ok] at e
      exact nomatch e
theorem pow_round {s : Int} {m g : MS} (tm : Tm s m) {row : List Int} (h : 0 < row.length) (hr : InR s row) {k : Nat} (e : pow s m k = some g) : Tm s g ∧ roundImage s g.1 g.2.1 g.2.2 row = rndN s m k row := by
  have hs : 2 ≤ s ∧ s ≤ 4 := Tb.hs tm
  have q := go_round_img tm h hr k (shM s 0) g (shM_tb hs 0) e
  refine ⟨q.1, q.2.trans ?_⟩
  show rndN s m k (roundImage s 0 1 (idT s) row) = _
  rw [round_id h hr]
theorem pow_off {s : Int} {m g : MS} : ∀ k, pow s m k = some g → -100 ≤ g.1 ∧ g.1 ≤ 100
  | 0, e => by
    have e := Option.some.inj e
    rw [← e]
    show -100 ≤ (0 : Int) ∧ (0 : Int) ≤ 100
    decide
  | k + 1, e => by
    unfold pow at e
    rw [go_snoc] at e
    cases q : go (pst s m) k (shM s 0) with
    | none => rw [q] at e; exact nomatch e
    | some r =>
      rw [q] at e
      have e : pst s m r = some g := e
      by_cases ok : stOk s m r
      · rw [pst_yes ok] at e
        rw [← Option.some.inj e]
        exact ok.2
      · rw [pst_no ok] at e
        exact nomatch e
theorem pwR_val {C : Addr} {s : Int} {m g : MS} {e : Int} (h0 : 0 ≤ e) (h : pow s m e.toNat = some g) : pwR C s m e = .val (.pv (msC s g)) := by
  unfold pwR
  rw [if_neg (by omega), h]
theorem five {c : Int} {a b d e f : Int} (h : ∀ l ∈ [a, b, d, e, f], 0 < l) : ∃ x0 x1 x2 x3 x4, lawDraws c [a, b, d, e, f] = [x0, x1, x2, x3, x4] ∧ (0 ≤ x0 ∧ x0 < a) ∧ (0 ≤ x1 ∧ x1 < b) ∧ (0 ≤ x2 ∧ x2 < d) ∧ (0 ≤ x3 ∧ x3 < e) ∧ (0 ≤ x4 ∧ x4 < f) := by
  obtain ⟨y0, e0, b0⟩ := draws_at c h (j := 0) (l := a) rfl
  obtain ⟨y1, e1, b1⟩ := draws_at c h (j := 1) (l := b) rfl
  obtain ⟨y2, e2, b2⟩ := draws_at c h (j := 2) (l := d) rfl
  obtain ⟨y3, e3, b3⟩ := draws_at c h (j := 3) (l := e) rfl
  obtain ⟨y4, e4, b4⟩ := draws_at c h (j := 4) (l := f) rfl
  have hl : (lawDraws c [a, b, d, e, f]).length = 5 := draws_len ..
  refine ⟨y0, y1, y2, y3, y4, ?_, b0, b1, b2, b3, b4⟩
  generalize lawDraws c [a, b, d, e, f] = l at *
  match l, hl with
  | [z0, z1, z2, z3, z4], _ =>
    cases e0; cases e1; cases e2; cases e3; cases e4; rfl
/-! ## maps that ask for their first and their last cell -/
theorem rv_from {s : Int} {m : MS} {x y : Int → Int} (h : ∀ i, m.1 ≤ i → i < m.1 + (m.2.1 : Int) → x i = y i) : rv s m x = rv s m y := by
  unfold rv
  rw [win_congr h]
def PF (s : Int) (m : MS) : Prop := ∀ x y, Row s x → Row s y → (∀ i, m.1 < i → x i = y i) → x m.1 ≠ y m.1 → rv s m x ≠ rv s m y
def PL (s : Int) (m : MS) : Prop := ∀ x y, Row s x → Row s y → (∀ i, i < m.1 + (m.2.1 : Int) - 1 → x i = y i) → x (m.1 + (m.2.1 : Int) - 1) ≠ y (m.1 + (m.2.1 : Int) - 1) → rv s m x ≠ rv s m y
theorem pf_comp {s : Int} {m n : MS} (tm : Tm s m) (tn : Tm s n) (hm : PF s m) (hn : PF s n) : PF s (comp s m n) := fun x y hx hy he hne => by
  rw [rv_comp tm tn hx, rv_comp tm tn hy]
  have he : ∀ i, m.1 + n.1 < i → x i = y i := he
  have hne : x (m.1 + n.1) ≠ y (m.1 + n.1) := hne
  refine hn _ _ (aft_row tm hx) (aft_row tm hy) (fun i hi => rv_from fun j h1 h2 => he _ (by omega)) ?_
  refine hm _ _ (fun j => hx _) (fun j => hy _) (fun j hj => he _ (by omega)) ?_
  show x (n.1 + m.1) ≠ y (n.1 + m.1)
  rw [Int.add_comm]
  exact hne
theorem pl_comp {s : Int} {m n : MS} (tm : Tm s m) (tn : Tm s n) (hm : PL s m) (hn : PL s n) : PL s (comp s m n) := fun x y hx hy he hne => by
  rw [rv_comp tm tn hx, rv_comp tm tn hy]
  have w1 : 1 ≤ m.2.1 := Tb.hw tm
  have w2 : 1 ≤ n.2.1 := Tb.hw tn
  have ee : (comp s m n).1 + ((comp s m n).2.1 : Int) - 1 = (n.1 + (n.2.1 : Int) - 1) + (m.1 + (m.2.1 : Int) - 1) := by
    show m.1 + n.1 + ((m.2.1 + n.2.1 - 1 : Nat) : Int) - 1 = _
    omega
  rw [ee] at he hne
  refine hn _ _ (aft_row tm hx) (aft_row tm hy) (fun i hi => rv_from fun j h1 h2 => he _ (by omega)) ?_
  exact hm _ _ (fun j => hx _) (fun j => hy _) (fun j hj => he _ (by omega)) hne
theorem two_rows {s : Int} (hs : 2 ≤ s) (p : Int) : Row s (fun _ => 0) ∧ Row s (fun i => if i = p then 1 else 0) := ⟨fun i => by show 0 ≤ (0 : Int) ∧ (0 : Int) < s; omega, fun i => by show 0 ≤ (if i = p then (1 : Int) else 0) ∧ (if i = p then (1 : Int) else 0) < s; split <;> omega⟩
theorem PF.no {s : Int} {o : Int} {v : Nat} {t : List Int} (tb : Tb s (v + 1) t) (h : PF s (o, v + 1, t)) : ¬ igF s t = true := fun hg => by
  have hs := tb.hs
  have r := two_rows hs.1 o
  refine nodep_first (o := o) tb hg ⟨_, _, r.1, r.2, fun i hi => (if_neg hi).symm, h _ _ r.1 r.2 (fun i hi => (if_neg ?_).symm) ?_⟩
  · have hi : o < i := hi
    omega
  · show (0 : Int) ≠ if o = o then 1 else 0
    rw [if_pos rfl]; decide
theorem PL.no {s : Int} {o : Int} {v : Nat} {t : List Int} (tb : Tb s (v + 1) t) (h : PL s (o, v + 1, t)) (hv : 1 ≤ v) : ¬ igL s t = true := fun hg => by
  have hs := tb.hs
  have r := two_rows hs.1 (o + (v : Int))
  have e : rv s (o, v + 1, t) (fun _ => 0) = rv s (o, v + 1, t) fun i => if i = o + (v : Int) then 1 else 0 := by
    rw [← rv_st2 tb hg r.1, ← rv_st2 tb hg r.2]
    refine rv_from fun i h1 h2 => ?_
    have h2 : i < o + (v : Int) := h2
    exact (if_neg (by omega)).symm
  refine h _ _ r.1 r.2 (fun i hi => ?_) ?_ e
  · have hi : i < o + ((v + 1 : Nat) : Int) - 1 := hi
    exact (if_neg (by omega)).symm
  · show (0 : Int) ≠ if o + ((v + 1 : Nat) : Int) - 1 = o + (v : Int) then 1 else 0
    rw [if_pos (by omega)]; decide
theorem nar_full {s : Int} {m : MS} (tm : Tm s m) (h1 : PF s m) (h2 : PL s m) (h0 : m.1 = 0) : nar s m = m := by
  obtain ⟨o, w, t⟩ := m
  have h0 : o = 0 := h0
  subst h0
  have tb : Tb s w t := tm
  have hw := tb.hw
  by_cases hw1 : w = 1
  · subst hw1; exact nar_one0
  obtain ⟨v, rfl⟩ : ∃ v, w = v + 1 := ⟨w - 1, by omega⟩
  have a : st1 s (0, v + 1, t) = (0, v + 1, t) := if_neg fun z => h1.no tb z.2
  have b : st2 s (0, v + 1, t) = (0, v + 1, t) := if_neg fun z => h2.no tb (by omega) z.2
  rw [nar_def, nar_stay a b, if_neg]
  intro z
  exact hw1 z.1
def sumT : List Int := (List.range 16).map fun (k : Nat) => ((k : Int) / 4 + (k : Int)) % 4
def sumM : MS := (0, 2, sumT)
theorem sum_tb : Tm 4 sumM := by
  refine ⟨by decide, by decide, by decide, by decide, ?_⟩
  exact inR_rangeMap fun k _ => ⟨Int.emod_nonneg _ (by decide), Int.emod_lt_of_pos _ (by decide)⟩
theorem sum_fin : ∀ a b : _root_.Fin 4, getI sumT (lawIndex [(a.val : Int), (b.val : Int)] 4).toNat = ((a.val : Int) + (b.val : Int)) % 4 := by decide
theorem sum_rv {x : Int → Int} (hx : Row 4 x) : rv 4 sumM x = (x 0 + x 1) % 4 := by
  have h0 := hx 0
  have h1 := hx 1
  unfold rv
  show getI sumT (lawIndex [x (0 + ((0 : Nat) : Int)), x (0 + ((1 : Nat) : Int))] 4).toNat = _
  have e0 : x (0 + ((0 : Nat) : Int)) = ((⟨(x 0).toNat, by omega⟩ : _root_.Fin 4).val : Int) := by show x 0 = ((x 0).toNat : Int); omega
  have e1 : x (0 + ((1 : Nat) : Int)) = ((⟨(x 1).toNat, by omega⟩ : _root_.Fin 4).val : Int) := by show x 1 = ((x 1).toNat : Int); omega
  rw [e0, e1, sum_fin]
  show (((x 0).toNat : Int) + ((x 1).toNat : Int)) % 4 = _
  congr 2 <;> omega
theorem sum_PF : PF 4 sumM := fun x y hx hy he hne => by
  rw [sum_rv hx, sum_rv hy]
  have e1 : x 1 = y 1 := he 1 (by decide)
  have hne : x 0 ≠ y 0 := hne
  have := hx 0; have := hy 0; have := hx 1; have := hy 1
  omega
theorem sum_PL : PL 4 sumM := fun x y hx hy he hne => by
  rw [sum_rv hx, sum_rv hy]
  have e1 : x 0 = y 0 := he 0 (by decide)
  have hne : x 1 ≠ y 1 := hne
  have := hx 0; have := hy 0; have := hx 1; have := hy 1
  omega
theorem id_rv {x : Int → Int} (hx : Row 4 x) : rv 4 (shM 4 0) x = x 0 := by unfold shM; rw [rv1, idT_get (hx 0)]
theorem sum_pow : ∀ k, k ≤ 5 → ∃ r, pow 4 sumM k = some r ∧ Tm 4 r ∧ PF 4 r ∧ PL 4 r ∧ r.1 = 0 ∧ r.2.1 = k + 1
  | 0, _ => by
    refine ⟨shM 4 0, rfl, shM_tb (by decide) 0, fun x y hx hy _ hne => ?_, fun x y hx hy _ hne => ?_, rfl, rfl⟩
    · rw [id_rv hx, id_rv hy]; exact hne
    · rw [id_rv hx, id_rv hy]; exact hne
  | k + 1, hk => by
    obtain ⟨r, e, tr, pf, pl, h0, hw⟩ := sum_pow k (by omega)
    have sz : (4 : Int) ^ (r.2.1 + sumM.2.1 - 1) ≤ 4096 := by
      have : (4 : Int) ^ (r.2.1 + sumM.2.1 - 1) ≤ 4 ^ 6 := pow_mono (by decide) (by rw [hw]; show k + 1 + 2 - 1 ≤ 6; omega)
      have : (4 : Int) ^ 6 = 4096 := by decide
      omega
    have tc : Tm 4 (comp 4 r sumM) := comp_Tb tr sum_tb sz
    have o0 : (comp 4 r sumM).1 = 0 := by show r.1 + 0 = 0; omega
    have nn : nar 4 (comp 4 r sumM) = comp 4 r sumM := nar_full tc (pf_comp tr sum_tb pf sum_PF) (pl_comp tr sum_tb pl sum_PL) o0
    have ok : stOk 4 sumM r := ⟨⟨rfl, sz, by show -100 ≤ r.1 + 0 ∧ r.1 + 0 ≤ 100; omega⟩, by rw [nn, o0]; decide⟩
    refine ⟨comp 4 r sumM, ?_, tc, pf_comp tr sum_tb pf sum_PF, pl_comp tr sum_tb pl sum_PL, o0, ?_⟩
    · unfold pow at e ⊢
      rw [go_snoc, e]
      show pst 4 sumM r = _
      rw [pst_yes ok, nn]
    · show r.2.1 + 2 - 1 = _
      omega
theorem sum_pow6 : pow 4 sumM 6 = none := by
  obtain ⟨r, e, tr, pf, pl, h0, hw⟩ := sum_pow 5 (by decide)
  unfold pow at e ⊢
  rw [go_snoc _ 5, e]
  show pst 4 sumM r = none
  refine pst_no fun z => ?_
  have z2 : (4 : Int) ^ (r.2.1 + sumM.2.1 - 1) ≤ 4096 := z.1.2.1
  rw [hw] at z2
  exact absurd z2 (by decide)
/-! ## the law's own power -/
def dueR (s : Int) (m : MS) : Nat → MS → Option MS × Int
  | 0, f => (some f, 0)
  | k + 1, f => if 1100 < s ^ (f.2.1 + m.2.1 - 1) then (none, if 4096 < s ^ (f.2.1 + m.2.1 - 1) then 0 else 1)
    else if ¬ (-100 ≤ f.1 + m.1 ∧ f.1 + m.1 ≤ 100) then (none, 0)
    else if 100 < (nar s (comp s f m)).1 then (none, 0) else dueR s m k (nar s (comp s f m))
def oD' (s : Int) : Option MS → D
  | none => .none
  | some f => msC s f
def dueD (s : Int) (r : Option MS × Int) : D := .tuple [oD' s r.1, .int r.2]
theorem due_step {s : Int} {m f : MS} (tm : Tm s m) (tf : Tm s f) (h1 : ¬ 1100 < s ^ (f.2.1 + m.2.1 - 1)) (h2 : -100 ≤ f.1 + m.1 ∧ f.1 + m.1 ≤ 100) (h3 : ¬ 100 < (nar s (comp s f m)).1) : stOk s m f := by
  have tc : Tm s (comp s f m) := comp_Tb tf tm (by omega)
  refine ⟨⟨rfl, by omega, h2⟩, ?_⟩
  have q := nar_off tc
  have e : (comp s f m).1 = f.1 + m.1 := rfl
  rw [e] at q
  generalize (nar s (comp s f m)).1 = z at q h3 ⊢
  omega
theorem due_ok {s : Int} {m : MS} (tm : Tm s m) : ∀ (k : Nat) (f : MS), Tm s f → (∀ g, (dueR s m k f).1 = some g → (dueR s m k f).2 = 0 ∧ go (pst s m) k f = some g) ∧ ((dueR s m k f).1 = none → (dueR s m k f).2 = 0 → go (pst s m) k f = none)
  | 0, f, tf => ⟨fun g h => ⟨rfl, h⟩, fun h => nomatch h⟩
  | k + 1, f, tf => by
    have out : ¬ stOk s m f → go (pst s m) (k + 1) f = none := fun h => by
      show (pst s m f).bind _ = none
      rw [pst_no h]; rfl
    by_cases h1 : 1100 < s ^ (f.2.1 + m.2.1 - 1)
    · have e : dueR s m (k + 1) f = (none, if 4096 < s ^ (f.2.1 + m.2.1 - 1) then 0 else 1) := if_pos h1
      rw [e]
      refine ⟨fun g h => (nomatch h), fun _ h => out fun z => ?_⟩
      have z1 : s ^ (f.2.1 + m.2.1 - 1) ≤ 4096 := z.1.2.1
      have h : (if 4096 < s ^ (f.2.1 + m.2.1 - 1) then (0 : Int) else 1) = 0 := h
      rw [if_neg (by omega)] at h
      cases h
    · by_cases h2 : -100 ≤ f.1 + m.1 ∧ f.1 + m.1 ≤ 100
      · by_cases h3 : 100 < (nar s (comp s f m)).1
        · have e : dueR s m (k + 1) f = (none, 0) := by
            show (if _ then _ else _) = _
            rw [if_neg h1, if_neg (fun z => z h2), if_pos h3]
          rw [e]
          exact ⟨fun g h => (nomatch h), fun _ h => out fun z => by have := z.2.2; omega⟩
        · have e : dueR s m (k + 1) f = dueR s m k (nar s (comp s f m)) := by
            show (if _ then _ else _) = _
            rw [if_neg h1, if_neg (fun z => z h2), if_neg h3]
          have ok := due_step tm tf h1 h2 h3
          have e2 : go (pst s m) (k + 1) f = go (pst s m) k (nar s (comp s f m)) := by
            show (pst s m f).bind _ = _
            rw [pst_yes ok]; rfl
          have ty := (nar_ok (comp_Tb tf tm ok.1.2.1)).1.tb
          have ih := due_ok tm k _ ty
          rw [e, e2]
          exact ih
      · have e : dueR s m (k + 1) f = (none, 0) := by
          show (if _ then _ else _) = _
          rw [if_neg h1, if_pos h2]
        rw [e]
        exact ⟨fun g h => (nomatch h), fun _ h => out fun z => h2 z.1.2.2⟩
/-! ## an order of the cells -/
def ordN (s num : Int) : Nat → List Int × List Int
  | 0 => (idT s, [])
  | k + 1 =>
    ((ordN s num k).1.take (num / ((k : Int) + 1) % ((ordN s num k).1.length : Int)).toNat ++ (ordN s num k).1.drop ((num / ((k : Int) + 1) % ((ordN s num k).1.length : Int)).toNat + 1),
      (ordN s num k).2 ++ [getI (ordN s num k).1 (num / ((k : Int) + 1) % ((ordN s num k).1.length : Int)).toNat])
theorem ordN_ok {s : Int} (hs : 2 ≤ s ∧ s ≤ 4) (num : Int) : ∀ k, k ≤ s.toNat → (ordN s num k).1.length = s.toNat - k ∧ InR s (ordN s num k).1 ∧ (ordN s num k).2.length = k ∧ InR s (ordN s num k).2
  | 0, _ => ⟨by show (idT s).length = _; rw [idT_len]; rfl, Tb.hc (shM_tb hs 0), rfl, fun c hc => nomatch hc⟩
  | k + 1, hk => by
    have ih := ordN_ok hs num k (by omega)
    have e1 : (ordN s num (k + 1)).1 = (ordN s num k).1.take (num / ((k : Int) + 1) % ((ordN s num k).1.length : Int)).toNat ++ (ordN s num k).1.drop ((num / ((k : Int) + 1) % ((ordN s num k).1.length : Int)).toNat + 1) := rfl
    have e2 : (ordN s num (k + 1)).2 = (ordN s num k).2 ++ [getI (ordN s num k).1 (num / ((k : Int) + 1) % ((ordN s num k).1.length : Int)).toNat] := rfl
    rw [e1, e2]
    generalize ordN s num k = p at ih
    obtain ⟨l, o⟩ := p
    obtain ⟨h1, h2, h3, h4⟩ := ih
    have h1 : l.length = s.toNat - k := h1
    show (l.take (num / ((k : Int) + 1) % (l.length : Int)).toNat ++ l.drop ((num / ((k : Int) + 1) % (l.length : Int)).toNat + 1)).length = _ ∧ _
    have a0 := Int.emod_nonneg (num / ((k : Int) + 1)) (b := (l.length : Int)) (by omega)
    have a1 := Int.emod_lt_of_pos (num / ((k : Int) + 1)) (b := (l.length : Int)) (by omega)
    generalize num / ((k : Int) + 1) % (l.length : Int) = a at a0 a1
    refine ⟨?_, fun c hc => ?_, ?_, fun c hc => ?_⟩
    · rw [List.length_append, List.length_take, List.length_drop]; omega
    · rcases List.mem_append.mp hc with hc | hc
      · exact h2 c (List.mem_of_mem_take hc)
      · exact h2 c (List.mem_of_mem_drop hc)
    · rw [List.length_append]
      have h3 : o.length = k := h3
      show o.length + 1 = _
      omega
    · rcases List.mem_append.mp hc with hc | hc
      · exact h4 c hc
      · rw [List.mem_singleton.mp hc]
        exact getI_in h2 (by show a.toNat < l.length; omega)
inductive R__law_due : List Sl → Res → Prop
  | mk (s : Int) (m : MS) (n : Nat) (tm : Tm s m) (ho : -100 ≤ m.1 ∧ m.1 ≤ 100) (hn : n ≤ 1000) : R__law_due [.fz (msC s m), .fz (.int (n : Int))] (.val (.fz (dueD s (dueR s m n (shM s 0)))))
inductive R__law_power_refused : List Sl → Res → Prop
  | mk (s : Int) (m : MS) (e : Int) (tm : Tm s m) (h : e < 0 ∨ pow s m e.toNat = none) : R__law_power_refused [.fz (msC s m), .fz (.int e)] (.val (.fz (.bool true)))
inductive R__law_shift_refused : List Sl → Res → Prop
  | mk (s p : Int) (h : ¬ ((2 ≤ s ∧ s ≤ 4) ∧ (-100 ≤ p ∧ p ≤ 100))) : R__law_shift_refused [.fz (.int s), .fz (.int p)] (.val (.fz (.bool true)))
inductive R__law_order : List Sl → Res → Prop
  | mk (s num : Int) (hs : 2 ≤ s ∧ s ≤ 4) : R__law_order [.fz (.int s), .fz (.int num)] (.val (.fz (.list (iL (ordN s num s.toNat).2))))
end Ed

namespace Ed
open PySem PySem.Spec PyProof.Rows L2

/-! ## rows under maps, one after the other -/
theorem win_const (b o : Int) (w : Nat) : win (fun _ => b) o w = List.replicate w b := by
  unfold win
  refine List.ext_getElem? fun i => ?_
  rw [List.getElem?_map, List.getElem?_replicate]
  by_cases hi : i < w
  · rw [List.getElem?_range hi, if_pos hi]; rfl
  · rw [List.getElem?_eq_none (by rw [List.length_range]; omega), if_neg hi]; rfl
theorem spNew_rv {s : Int} {m : MS} {b : Int} : spNew s m.2.1 m.2.2 b = rv s m fun _ => b := by
  unfold spNew rv
  rw [win_const]
theorem spImg_cell {s : Int} {m : MS} {b st : Int} {cells : List Int} (hw : 1 ≤ m.2.1) (i : Int) : spCell (spNew s m.2.1 m.2.2 b) (st - m.1 - (m.2.1 : Int) + 1) (spImgCells s m.2.1 m.2.2 b cells) i = aft s m (spCell b st cells) i := by
  rw [img_cell (o := m.1) hw]
  unfold aft rv
  congr 3
  unfold swin win
  refine List.map_congr_left fun j _ => ?_
  show spCell b st cells _ = spCell b st cells _
  congr 1; omega
/-- images of spread rows are told by their cells -/
theorem spImg_ext {s : Int} {m n : MS} {b b' st st' : Int} {cs cs' : List Int} (h1 : 1 ≤ m.2.1) (h2 : 1 ≤ n.2.1) (hb : (rv s m fun _ => b) = rv s n fun _ => b') (hf : ∀ i, aft s m (spCell b st cs) i = aft s n (spCell b' st' cs') i) :
    spImg s m.1 m.2.1 m.2.2 b st cs = spImg s n.1 n.2.1 n.2.2 b' st' cs' := by
  unfold spImg
  have e : spNew s m.2.1 m.2.2 b = spNew s n.2.1 n.2.2 b' := by rw [spNew_rv, spNew_rv]; exact hb
  have k1 : ∀ i, spCell (spNew s m.2.1 m.2.2 b) (st - m.1 - (m.2.1 : Int) + 1) (spImgCells s m.2.1 m.2.2 b cs) i = aft s m (spCell b st cs) i := fun i => spImg_cell h1 i
  have k2 : ∀ i, spCell (spNew s n.2.1 n.2.2 b') (st' - n.1 - (n.2.1 : Int) + 1) (spImgCells s n.2.1 n.2.2 b' cs') i = aft s n (spCell b' st' cs') i := fun i => spImg_cell h2 i
  rw [e] at k1 ⊢
  exact spSimple_congr fun i => (k1 i).trans ((hf i).trans (k2 i).symm)
theorem aft_congr {s : Int} {m : MS} {x y : Int → Int} (h : ∀ i, x i = y i) (i : Int) : aft s m x i = aft s m y i := by
  have : x = y := funext h
  rw [this]
theorem aft_rv {s : Int} {m n : MS} (e : ∀ x, Row s x → rv s m x = rv s n x) {x : Int → Int} (hx : Row s x) (i : Int) : aft s m x i = aft s n x i := e _ fun j => hx _
theorem spRow {s b : Int} {cells : List Int} (hb : 0 ≤ b ∧ b < s) (hr : InR s cells) (st : Int) : Row s (spCell b st cells) := fun i => spCell_in hb hr st i
theorem aft_comp {s : Int} {m n : MS} (tm : Tm s m) (tn : Tm s n) {x : Int → Int} (hx : Row s x) (i : Int) : aft s (comp s m n) x i = aft s n (aft s m x) i := by
  show rv s (comp s m n) (fun j => x (i + j)) = rv s n fun j => aft s m x (i + j)
  rw [rv_comp tm tn fun j => hx _]
  congr 1
  funext k
  show rv s m (fun j => x (i + (k + j))) = rv s m fun j => x (i + k + j)
  congr 1
  funext j
  congr 1; omega
theorem aft_const {s : Int} {m : MS} {b : Int} (i : Int) : aft s m (fun _ => b) i = rv s m fun _ => b := rfl
theorem sh_rv {s p : Int} {x : Int → Int} (hx : Row s x) : rv s (shM s p) x = x p := by unfold shM; rw [rv1, idT_get (hx p)]
theorem aft_sh {s p : Int} {x : Int → Int} (hx : Row s x) (i : Int) : aft s (shM s p) x i = x (i + p) := sh_rv fun j => hx _
/-- the row that spread cells tell, of an image -/
theorem img_is {s : Int} {m : MS} {b st : Int} {cells : List Int} (hw : 1 ≤ m.2.1) : ∃ b' st' cs', spImg s m.1 m.2.1 m.2.2 b st cells = spreadD b' st' cs' ∧ b' = (rv s m fun _ => b) ∧ (∀ i, spCell b' st' cs' i = aft s m (spCell b st cells) i) ∧ cs'.length ≤ cells.length + m.2.1 ∧ (∀ x ∈ cs', x ∈ spImgCells s m.2.1 m.2.2 b cells) ∧
    (∀ q : Int, 0 ≤ q → -q ≤ st - m.1 - (m.2.1 : Int) + 1 ∧ st - m.1 - (m.2.1 : Int) + 1 ≤ q → -q ≤ st' ∧ st' ≤ q + (cells.length : Int) + (m.2.1 : Int)) := by
  have hl : (spImgCells s m.2.1 m.2.2 b cells).length = cells.length + m.2.1 - 1 := by unfold spImgCells; rw [lawApply_len, padW_len]; omega
  refine ⟨spNew s m.2.1 m.2.2 b, _, _, rfl, spNew_rv, fun i => ?_, ?_, fun x hx => ?_, fun q h0 h => ?_⟩
  · rw [spCell_simple, spImg_cell hw]
  · exact Nat.le_trans spBody_le (by omega)
  · exact List.mem_of_mem_drop (List.mem_of_mem_take hx)
  · have := spSt_ok (b := spNew s m.2.1 m.2.2 b) (cells := spImgCells s m.2.1 m.2.2 b cells) h0 h
    omega
theorem imgCells_in {s b : Int} {m : MS} {cells : List Int} (tm : Tm s m) (hb : 0 ≤ b ∧ b < s) (hr : InR s cells) : InR s (spImgCells s m.2.1 m.2.2 b cells) := by
  unfold spImgCells
  refine lawApply_in tm ?_
  unfold padW
  refine (InR.app ?_ hr).app ?_
  · exact fun c hc => by rw [(List.mem_replicate.mp hc).2]; exact hb
  · exact fun c hc => by rw [(List.mem_replicate.mp hc).2]; exact hb
theorem rv_in {s : Int} {m : MS} (tm : Tm s m) {x : Int → Int} (hx : Row s x) : 0 ≤ rv s m x ∧ rv s m x < s := by
  have q := aft_row tm hx 0
  have e : aft s m x 0 = rv s m x := by
    show rv s m (fun j => x (0 + j)) = _
    congr 1
    funext j
    rw [Int.zero_add]
  rw [e] at q
  exact q
/-! ## words -/
theorem word_win {word : List Int} (o : Int) : win (rowOf o word) o word.length = word := win_rowOf o word
/-- the image word under a composition -/
theorem apply_comp {s : Int} {m n : MS} (tm : Tm s m) (tn : Tm s n) {word : List Int} (hw : InR s word) : lawApply s (comp s m n).2.1 (comp s m n).2.2 word = lawApply s n.2.1 n.2.2 (lawApply s m.2.1 m.2.2 word) := by
  have h1 : 1 ≤ m.2.1 := Tb.hw tm
  have h2 : 1 ≤ n.2.1 := Tb.hw tn
  have hs : 2 ≤ s ∧ s ≤ 4 := Tb.hs tm
  have hW : (comp s m n).2.1 = m.2.1 + n.2.1 - 1 := rfl
  by_cases hl : word.length < m.2.1 + n.2.1 - 1
  · rw [List.length_eq_zero_iff.mp (show (lawApply s (comp s m n).2.1 (comp s m n).2.2 word).length = 0 by rw [lawApply_len, hW]; omega),
      List.length_eq_zero_iff.mp (show (lawApply s n.2.1 n.2.2 (lawApply s m.2.1 m.2.2 word)).length = 0 by rw [lawApply_len, lawApply_len]; omega)]
  · obtain ⟨v, hv⟩ : ∃ v, word.length = (m.2.1 + n.2.1 - 1) + v - 1 ∧ 1 ≤ v := ⟨word.length + 2 - (m.2.1 + n.2.1), by omega, by omega⟩
    have hx := rowOf_row (show 0 < s by omega) hw (n.1 + m.1)
    have e := word_win (word := word) (n.1 + m.1)
    generalize rowOf (n.1 + m.1) word = x at hx e
    rw [hv.1] at e
    have a1 := apply_win (s := s) (m := comp s m n) (x := x) (p := 0) (v := v) hv.2 (by rw [hW]; omega)
    have a2 := apply_win (s := s) (m := m) (x := x) (p := n.1) (v := n.2.1 + v - 1) (by omega) h1
    have a3 := apply_win (s := s) (m := n) (x := aft s m x) (p := 0) (v := v) hv.2 h2
    rw [hW, show (0 : Int) + (comp s m n).1 = n.1 + m.1 by show 0 + (m.1 + n.1) = _; omega, e] at a1
    rw [show m.2.1 + (n.2.1 + v - 1) - 1 = m.2.1 + n.2.1 - 1 + v - 1 by omega, e] at a2
    rw [Int.zero_add] at a3
    rw [hW, a1, a2, a3]
    unfold win
    exact List.map_congr_left fun j _ => aft_comp tm tn hx _
theorem nar_cases (s : Int) (m : MS) : nar s m = nar2 s m ∨ ((nar s m).1 = 0 ∧ (nar s m).2.1 = 1) := by
  have e := nar_def s m
  generalize nar s m = y at e
  generalize nar2 s m = z at e
  by_cases c : z.2.1 = 1 ∧ z.2.2 = List.replicate s.toNat (getI z.2.2 0)
  · rw [if_pos c] at e
    subst e
    exact .inr ⟨rfl, c.1⟩
  · rw [if_neg c] at e
    exact .inl e
theorem nar2_eq {s : Int} {m : MS} (h : 1 < (nar s m).2.1) : nar s m = nar2 s m := by
  rcases nar_cases s m with e | e
  · exact e
  · rw [e.2] at h; omega
theorem nar_cut {s : Int} {m : MS} (tm : Tm s m) (h : 1 < (nar s m).2.1) : m.1 ≤ (nar s m).1 ∧ (nar s m).1 + ((nar s m).2.1 : Int) ≤ m.1 + (m.2.1 : Int) := by
  rw [nar2_eq h]
  have a := nar1_ok tm
  have b := nar2_ok tm
  have c := nar2_le tm
  have d := nar1_sum tm
  have e := a.1.le
  rw [b.2.1]
  omega
theorem nar_offw {s : Int} {m : MS} (h : Tm s m) : (nar s m).1 = 0 ∨ (m.1 ≤ (nar s m).1 ∧ (nar s m).1 ≤ m.1 + (m.2.1 : Int) - 1) := by
  have q := nar1_sum h
  have a := nar1_ok h
  have b := nar2_ok h
  have w1 : 1 ≤ (nar1 s m).2.1 := Tb.hw a.1.tb
  have w2 := a.1.le
  rcases nar_cases s m with e | e
  · rw [e, b.2.1]
    exact .inr (by omega)
  · exact .inl e.1
theorem cut_win0 {low o : Int} {cs : List Int} {a w : Nat} (h1 : low + (a : Int) = o) (h2 : a + w ≤ cs.length) : (cs.drop a).take w = win (rowOf low cs) o w := by
  unfold win
  refine List.ext_getElem? fun i => ?_
  by_cases hi : i < w
  · rw [List.getElem?_take_of_lt hi, List.getElem?_drop, List.getElem?_map, List.getElem?_range hi, getI_at (by omega)]
    show _ = some (rowOf low cs (o + (i : Int)))
    unfold rowOf
    rw [if_pos (by omega)]
    congr 2; omega
  · rw [List.getElem?_eq_none (by rw [List.length_take]; omega), List.getElem?_eq_none (by rw [List.length_map, List.length_range]; omega)]
/-- the reduced map on a word without the cells that it does not need -/
theorem apply_cut {s : Int} {m : MS} (tm : Tm s m) {word : List Int} (hw : InR s word) (h : 1 < (nar s m).2.1) (hl : m.2.1 ≤ word.length) {c r : Nat} (hc : (nar s m).1 - m.1 = (c : Int)) (hr : (m.2.1 : Int) - ((nar s m).2.1 : Int) - (c : Int) = (r : Int)) :
    lawApply s (nar s m).2.1 (nar s m).2.2 ((word.drop c).take (word.length - r - c)) = lawApply s m.2.1 m.2.2 word := by
  have hs : 2 ≤ s ∧ s ≤ 4 := Tb.hs tm
  have h1 : 1 ≤ m.2.1 := Tb.hw tm
  have ok := nar_ok tm
  obtain ⟨v, hv⟩ : ∃ v, word.length = m.2.1 + v - 1 ∧ 1 ≤ v := ⟨word.length + 1 - m.2.1, by omega, by omega⟩
  have hx := rowOf_row (show 0 < s by omega) hw m.1
  have e := word_win (word := word) m.1
  have e2 := cut_win0 (low := m.1) (o := (nar s m).1) (cs := word) (a := c) (w := (nar s m).2.1 + v - 1) (by omega) (by omega)
  generalize rowOf m.1 word = x at hx e e2
  rw [hv.1] at e
  have a1 := apply_win (s := s) (m := m) (x := x) (p := 0) (v := v) hv.2 h1
  have a2 := apply_win (s := s) (m := nar s m) (x := x) (p := 0) (v := v) hv.2 (by omega)
  rw [Int.zero_add] at a1 a2
  rw [e] at a1
  rw [show word.length - r - c = (nar s m).2.1 + v - 1 by omega, e2, a2, a1]
  unfold win
  exact List.map_congr_left fun j _ => aft_rv (fun x hx => ok.1.rv x hx) hx _
/-! ## k09's own -/
def shr2 (s : Int) (w1 w : Nat) : Nat := if 1 < w ∧ 600 < s ^ (w1 + w - 1) then w - 1 else w
def secW (s : Int) (w1 : Nat) (cell : Int) : Nat := itA (shr2 s w1) 4 (1 + (cell % 4).toNat)
theorem shr2_pos {s : Int} {w1 w : Nat} (h : 1 ≤ w) : 1 ≤ shr2 s w1 w ∧ shr2 s w1 w ≤ w := by
  unfold shr2
  split <;> omega
theorem shr2_it {s : Int} {w1 w : Nat} (h : 1 ≤ w) : ∀ k, 1 ≤ itA (shr2 s w1) k w ∧ itA (shr2 s w1) k w ≤ w
  | 0 => ⟨h, Nat.le_refl _⟩
  | k + 1 => by
    rw [itA_snoc]
    have ih := shr2_it (s := s) (w1 := w1) h k
    have q := shr2_pos (s := s) (w1 := w1) ih.1
    omega
theorem shr2_end {s : Int} {w1 w : Nat} (h : 1 ≤ w) (h4 : w ≤ 4) (h1 : s ^ w1 ≤ 600) : s ^ (w1 + itA (shr2 s w1) 4 w - 1) ≤ 600 := by
  have key : ∀ k, s ^ (w1 + itA (shr2 s w1) k w - 1) ≤ 600 ∨ itA (shr2 s w1) k w + k ≤ w := by
    intro k
    induction k with
    | zero => right; exact Nat.le_refl _
    | succ k ih =>
      rw [itA_snoc]
      have p := shr2_it (s := s) (w1 := w1) h k
      generalize itA (shr2 s w1) k w = v at ih p
      unfold shr2
      by_cases c : 1 < v ∧ 600 < s ^ (w1 + v - 1)
      · rw [if_pos c]
        rcases ih with ih | ih
        · omega
        · right; omega
      · rw [if_neg c]
        left
        by_cases v1 : v = 1
        · subst v1
          rw [Nat.add_sub_cancel]
          exact h1
        · omega
  rcases key 4 with q | q
  · exact q
  · have p := shr2_it (s := s) (w1 := w1) h 4
    omega
def lawSecond (s : Int) (w1 : Nat) (cell more : Int) : MS := (cell / 4 % 5 - 2, secW s w1 cell, lawTable more s (secW s w1 cell))
theorem secW_ok {s : Int} (hs : 2 ≤ s ∧ s ≤ 4) {w1 : Nat} (hw : 1 ≤ w1) (h1 : s ^ w1 ≤ 600) (cell : Int) : (1 ≤ secW s w1 cell ∧ secW s w1 cell ≤ 4) ∧ s ^ (w1 + secW s w1 cell - 1) ≤ 600 ∧ s ^ secW s w1 cell ≤ 600 := by
  have a0 := Int.emod_nonneg cell (b := 4) (by decide)
  have a1 := Int.emod_lt_of_pos cell (b := 4) (by decide)
  have q := shr2_it (s := s) (w1 := w1) (w := 1 + (cell % 4).toNat) (by omega) 4
  have e := shr2_end (s := s) (w1 := w1) (w := 1 + (cell % 4).toNat) (by omega) (by omega) h1
  unfold secW
  generalize itA (shr2 s w1) 4 (1 + (cell % 4).toNat) = v at q e
  have m := pow_mono (s := s) (by omega) (show v ≤ w1 + v - 1 by omega)
  omega
inductive R__law_second : List Sl → Res → Prop
  | mk (s : Int) (m : MS) (cell more : Int) (tm : Tm s m) (h : s ^ m.2.1 ≤ 70) : R__law_second [.fz (msC s m), .fz (.int cell), .fz (.int more)] (.val (.fz (msC s (lawSecond s m.2.1 cell more))))
theorem roundSh {s p : Int} {row : List Int} (h : 0 < row.length) (hr : InR s row) : roundImage s p 1 (idT s) row = (List.range row.length).map fun (k : Nat) => rowAt row ((k : Int) + p) := by
  unfold roundImage
  refine List.map_congr_left fun k _ => ?_
  have e := round_key (s := s) (row := row) (m := (p, 1, idT s)) (k := (k : Int))
  have e : getI (idT s) (lawIndex (winAt row 1 ((k : Int) + p)) s).toNat = rv s (p, 1, idT s) fun i => rowAt row ((k : Int) + i) := e
  rw [e, rv1, idT_get (rowAt_in h hr _)]
theorem pow2 {s : Int} {m : MS} (tm : Tm s m) (ho : -3 ≤ m.1 ∧ m.1 ≤ 3) (h70 : s ^ m.2.1 ≤ 70) (h6 : m.2.1 ≤ 6) : ∃ g, pow s m 2 = some g := by
  have hs : 2 ≤ s ∧ s ≤ 4 := Tb.hs tm
  have hw : 1 ≤ m.2.1 := Tb.hw tm
  have t0 := shM_tb hs 0
  have tc : Tm s (comp s (shM s 0) m) := comp_Tb t0 tm (by show s ^ (1 + m.2.1 - 1) ≤ 4096; rw [Nat.add_comm, Nat.add_sub_cancel]; omega)
  have w1 : (comp s (shM s 0) m).2.1 = m.2.1 := by show 1 + m.2.1 - 1 = _; omega
  have o1 : (comp s (shM s 0) m).1 = m.1 := by show 0 + m.1 = _; omega
  have q1 := nar_offw tc
  have ok1 := nar_ok tc
  rw [w1, o1] at q1
  have l1 := ok1.1.le
  rw [w1] at l1
  have st1 : stOk s m (shM s 0) := by
    refine ⟨⟨rfl, by show s ^ (1 + m.2.1 - 1) ≤ 4096; rw [Nat.add_comm, Nat.add_sub_cancel]; omega, by show -100 ≤ 0 + m.1 ∧ 0 + m.1 ≤ 100; omega⟩, ?_⟩
    generalize (nar s (comp s (shM s 0) m)).1 = z at q1 ⊢
    omega
  have y1 := pst_yes st1
  have t1 := ok1.1.tb
  have ww : 1 ≤ (nar s (comp s (shM s 0) m)).2.1 := Tb.hw t1
  generalize nar s (comp s (shM s 0) m) = r at q1 l1 y1 t1 ww
  have big : s ^ (r.2.1 + m.2.1 - 1) ≤ 4096 := by
    have e1 := pow_mono (s := s) (by omega) (show r.2.1 + m.2.1 - 1 ≤ m.2.1 + m.2.1 - 1 by omega)
    have e2 : s ^ (m.2.1 + m.2.1 - 1) * s = s ^ m.2.1 * s ^ m.2.1 := by rw [← Int.pow_succ, ← Int.pow_add]; congr 1; omega
    have p1 := pow_pos' (show 0 < s by omega) m.2.1
    have p2 := pow_pos' (show 0 < s by omega) (m.2.1 + m.2.1 - 1)
    have e3 : s ^ m.2.1 * s ^ m.2.1 ≤ 70 * s ^ m.2.1 := Int.mul_le_mul_of_nonneg_right h70 (by omega)
    have e4 : s ^ (m.2.1 + m.2.1 - 1) * 2 ≤ s ^ (m.2.1 + m.2.1 - 1) * s := Int.mul_le_mul_of_nonneg_left hs.1 (by omega)
    omega
  have tc2 : Tm s (comp s r m) := comp_Tb t1 tm big
  have q2 := nar_offw tc2
  have o2 : (comp s r m).1 = r.1 + m.1 := rfl
  have w2 : (comp s r m).2.1 = r.2.1 + m.2.1 - 1 := rfl
  rw [o2, w2] at q2
  have st2 : stOk s m r := by
    refine ⟨⟨rfl, big, by omega⟩, ?_⟩
    generalize (nar s (comp s r m)).1 = z at q2 ⊢
    omega
  refine ⟨nar s (comp s r m), ?_⟩
  show (pst s m (shM s 0)).bind (go (pst s m) 1) = _
  rw [y1]
  show go (pst s m) 1 r = _
  rw [go_one, pst_yes st2]
/-- a map after a shift, and before it -/
theorem sh_swap {s p : Int} {m : MS} (tm : Tm s m) {x : Int → Int} (hx : Row s x) : rv s (comp s (shM s p) m) x = rv s (comp s m (shM s p)) x := by
  have hs : 2 ≤ s ∧ s ≤ 4 := Tb.hs tm
  have t0 := shM_tb hs p
  rw [rv_comp t0 tm hx, rv_comp tm t0 hx, sh_rv (aft_row tm hx)]
  show rv s m (aft s (shM s p) x) = rv s m fun j => x (p + j)
  congr 1
  funext j
  rw [aft_sh hx, Int.add_comm]
theorem spCell_shift (b st p : Int) (cs : List Int) (i : Int) : spCell b (st - p) cs i = spCell b st cs (i + p) := by
  unfold spCell
  by_cases h : st ≤ i + p ∧ i + p < st + (cs.length : Int)
  · rw [if_pos h, if_pos (by omega)]
    congr 2; omega
  · rw [if_neg h, if_neg (by omega)]
end Ed
namespace Ed
open PySem PySem.Spec PyProof.Rows L2
local macro_rules | `(tactic| walk_at "v") => `(tactic| first | exact ev_var rfl | exact ev_varS rfl | exact ev_int | exact ev_bl | exact ev_non | exact ev_str)
def top (i : Nat) : Stmt := PySem.Challenge.pw_edenrow_k09_whole_compositions_act_on_ro.main.body.getD i (.Pass ⟨0, 0, 0, 0⟩)
section
variable {P : Program} {w : World} {K : PySem.W.Frag} {mg : Str → Option Value} {base : Heap}
abbrev s__law_draws : Stmt := top 28
theorem sc__law_draws : FnScope ["cell", "limits", "found", "rest", "state", "free", "limit"] ["cell", "limits"] (defScope s__law_draws) := ⟨rfl, rfl, rfl, by decide +kernel, rfl, by decide +kernel, by decide +kernel⟩
theorem ok__law_draws {f : Addr} {fd : FuncData} (F : Fun K "_law_draws" "_law_draws" s__law_draws f fd) (hm : mg "_law_draws" = some (.ref f)) (hb : Binds K fd ["cell", "limits"] []) (M_abs : mg "abs" = none) (M_int : mg "int" = none) : Cal P w K mg base CX0 "_law_draws" ["cell", "limits"] 1 (SpR K R__law_draws) := by
  refine def_ok (N := ["cell", "limits", "found", "rest", "state", "free", "limit"]) (k := 0) F hm hb sc__law_draws (fun rs r h => by cases h <;> rfl) (fun cdv A outer s H E hr hG => ⟨_, (pss_cons (ps_set (i := 2) sc__law_draws.nd rfl (by first | exact Or.inl rfl | exact Or.inr rfl) (pe_lst pa_nil))
    (pss_cons (ps_set (i := 3) sc__law_draws.nd rfl (by first | exact Or.inl rfl | exact Or.inr rfl) (pe_callB call_abs (by rfl) M_abs (by decide +kernel) (pa_cons (pe_callTy call_int1 (by rfl) M_int (by decide +kernel) (pa_cons (pv 0) pa_nil)) pa_nil)))
    (pss_cons (ps_set (i := 4) sc__law_draws.nd rfl (by first | exact Or.inl rfl | exact Or.inr rfl) (pe_op op_mod (pe_callTy call_int1 (by rfl) M_int (by decide +kernel) (pa_cons (pv 3) pa_nil)) pe_int))
    (pss_cons (ps_set (i := 5) sc__law_draws.nd rfl (by first | exact Or.inl rfl | exact Or.inr rfl) (pe_or (pe_cmpR op_lt (pv 0) pe_int (nomark _)) (pe_one (pe_cmpR op_ge (pv 0) (pe_op op_pow pe_int pe_int) (nomark _)))))
    (pss_cons (ps_for PassesOwn.never rfl (pi_list (pv 1)) (pg_name (i := 6) sc__law_draws.nd rfl (by first | exact Or.inl rfl | exact Or.inr rfl)) (pss_one (ps_if (PW.pt (pw_and (pt_val (pv 5)) (pw_and1 (pt_cmpR op_gt (pv 3) pe_int (nomark _))))) (pss_cons (ps_expr (pe_bm PySem.F.plainAttrs_list PySem.F.slot_list_append PySem.F.type_list_append mt_append (pv 2) (pa_cons (pe_op op_mod (pe_callTy call_int1 (by rfl) M_int (by decide +kernel) (pa_cons (pv 3) pa_nil)) (pv 6)) pa_nil)))
        (pss_one (ps_set (i := 3) sc__law_draws.nd rfl (by first | exact Or.inl rfl | exact Or.inr rfl) (pe_op op_fdiv (pv 3) (pv 6))))) (pss_cons (ps_set (i := 4) sc__law_draws.nd rfl (by first | exact Or.inl rfl | exact Or.inr rfl) (pe_op op_mod (pe_callTy call_int1 (by rfl) M_int (by decide +kernel) (pa_cons (pe_op op_add (pe_op op_mul (pv 4) pe_int) pe_int) pa_nil)) pe_int))
        (pss_cons (ps_set (i := 4) sc__law_draws.nd rfl (by first | exact Or.inl rfl | exact Or.inr rfl) (pe_op op_mod (pe_callTy call_int1 (by rfl) M_int (by decide +kernel) (pa_cons (pe_op op_add (pe_op op_mul (pv 4) pe_int) pe_int) pa_nil)) pe_int))
        (pss_one (ps_expr (pe_bm PySem.F.plainAttrs_list PySem.F.slot_list_append PySem.F.type_list_append mt_append (pv 2) (pa_cons (pe_op op_mod (pe_callTy call_int1 (by rfl) M_int (by decide +kernel) (pa_cons (pe_op op_fdiv (pv 4) pe_int) pa_nil)) (pv 6)) pa_nil)))))))))
    (pss_one (ps_ret (pv 2)))))))), fun rs r h => ?_⟩)
  cases h with
  | mk cell limits h1 hz =>
    show Run K E _ [.fz (.int cell), .fz (.list (iL limits)), .no, .no, .no, .no, .no] _
    refine run_asg (ev_lst (ds := []) ea_nil (Nat.zero_le _)) ?_
    refine run_asg (r := .fz (.int (absI cell))) (ev_cb (ea_cons (ev_cb (ea_cons (ev_var rfl) ea_nil) rc_int) ea_nil) rc_abs) ?_
    refine run_asg (r := .fz (.int (absI cell % 2147483647))) (ev_ic (ev_cb (ea_cons (ev_var rfl) ea_nil) rc_int) ev_int (by decide)) ?_
    refine run_asg (r := .fz (.bool (drawFree cell))) (ev_orV (ev_b (ev_var rfl) ev_int) fun _ => ev_b (ev_var rfl) (ev_ic ev_int ev_int ⟨by decide, by decide, by decide⟩)) ?_
    refine run_seq (M := fun r => r = [.fz (.int cell), .fz (.list (iL limits)), .ow (iL (lawDraws cell limits)), .fz (.int (drawSt cell limits).2.1), .fz (.int (drawSt cell limits).2.2), .fz (.bool (drawFree cell)), .no])
      (s_forL [6] (ev_var rfl) (fun i r => r = [.fz (.int cell), .fz (.list (iL limits)), .ow (iL (drawSt cell (limits.take i)).1), .fz (.int (drawSt cell (limits.take i)).2.1), .fz (.int (drawSt cell (limits.take i)).2.2), .fz (.bool (drawFree cell)), .no]) rfl ?_ (fun r h => ?_)) ?_
    · rintro i d r hi rfl
      obtain ⟨l, hl, rfl⟩ := iL_get hi
      have hlt : i < limits.length := (List.getElem?_eq_some_iff.mp hl).1
      have h2 := h1 l (List.mem_of_getElem? hl)
      have hsz : (iL (drawSt cell (limits.take i)).1).length < sizeLine := small100 (by rw [iL_len, drawSt_take_len cell limits i (Nat.le_of_lt hlt)]; omega)
      have hst := drawSt_snoc cell (limits.take i) l
      rw [← take_succ_some hl] at hst
      generalize drawSt cell (limits.take (i + 1)) = y at hst ⊢
      generalize hx : drawSt cell (limits.take i) = x at hst hsz ⊢
      obtain ⟨fo, re, sta⟩ := x
      refine s_if (b := drawFree cell && decide (1 < re)) (et_and (et_B (ev_var rfl)) fun _ => et_test (ev_b (ev_var rfl) ev_int)) (fun hb => ?_) (fun hb => ?_)
      · have e : y = (fo ++ [re % l], re / l, sta) := by rw [hst]; unfold drawStep; exact if_pos hb
        subst e
        refine run_to (s_app rfl (ev_ic (ev_cb (ea_cons (ev_var rfl) ea_nil) rc_int) (ev_var rfl) h2.1) hsz rfl) ?_
        refine s_asg (ev_ic (ev_var rfl) (ev_var rfl) h2) ?_
        show _ = _
        rw [iL_app]; rfl
      · have e : y = (fo ++ [drawS2 sta / 13 % l], re, drawS2 sta) := by rw [hst]; unfold drawStep; exact if_neg (by rw [hb]; decide)
        subst e
        refine run_asg (r := .fz (.int (drawS1 sta))) (ev_ic (ev_cb (ea_cons (ev_i (ev_ic (ev_var rfl) ev_int (.inr (by decide))) ev_int) ea_nil) rc_int) ev_int (by decide)) ?_
        refine run_asg (r := .fz (.int (drawS2 sta))) (ev_ic (ev_cb (ea_cons (ev_i (ev_ic (ev_var rfl) ev_int (.inr (by decide))) ev_int) ea_nil) rc_int) ev_int (by decide)) ?_
        refine s_app rfl (ev_ic (ev_cb (ea_cons (ev_ic (ev_var rfl) ev_int ⟨by decide, by decide⟩) ea_nil) rc_int) (ev_var rfl) h2.1) hsz ?_
        show _ = _
        rw [iL_app]; rfl
    · rw [iL_len, List.take_length] at h
      exact h
    · rintro r rfl
      exact s_retO rfl rfl
abbrev s__law_power : Stmt := top 29
theorem sc__law_power : FnScope ["size", "exponent", "result", "k"] ["size", "exponent"] (defScope s__law_power) := ⟨rfl, rfl, rfl, by decide +kernel, rfl, by decide +kernel, by decide +kernel⟩
theorem ok__law_power {f : Addr} {fd : FuncData} (F : Fun K "_law_power" "_law_power" s__law_power f fd) (hm : mg "_law_power" = some (.ref f)) (hb : Binds K fd ["size", "exponent"] []) (M_range : mg "range" = none) : Cal P w K mg base CX0 "_law_power" ["size", "exponent"] 1 (SpR K R__law_power) := by
  refine def_ok (N := ["size", "exponent", "result", "k"]) (k := 0) F hm hb sc__law_power (fun rs r h => by cases h <;> rfl) (fun cdv A outer s H E hr hG => ⟨_, (pss_cons (ps_set (i := 2) sc__law_power.nd rfl (by first | exact Or.inl rfl | exact Or.inr rfl) pe_int)
    (pss_cons (ps_for PassesOwn.never rfl (pi_range1 (by rfl) M_range (pa_cons (pv 1) pa_nil)) (pg_name (i := 3) sc__law_power.nd rfl (by first | exact Or.inl rfl | exact Or.inr rfl)) (pss_one (ps_set (i := 2) sc__law_power.nd rfl (by first | exact Or.inl rfl | exact Or.inr rfl) (pe_op op_mul (pv 2) (pv 0)))))
    (pss_one (ps_ret (pv 2))))), fun rs r h => ?_⟩)
  cases h with
  | mk size e h1 h2 =>
    show Run K E _ [.fz (.int size), .fz (.int e), .no, .no] _
    refine run_asg ev_int ?_
    refine run_seq (M := fun r => r = [.fz (.int size), .fz (.int e), .fz (.int (size ^ e.toNat)), .no]) (s_forR1 [3] (ea_cons (ev_var rfl) ea_nil) h2 (fun i r => r = [.fz (.int size), .fz (.int e), .fz (.int (size ^ i)), .no]) (by rw [Int.pow_zero]; rfl) ?_ (fun r h => h)) ?_
    · rintro i r hi rfl
      refine s_asg (ev_ic (ev_var rfl) (ev_var rfl) (.inr h1)) ?_
      show _ = _
      rw [Int.pow_succ]; rfl
    · rintro r rfl
      exact s_ret (ev_var rfl) rfl
abbrev s__law_digits : Stmt := top 30
theorem sc__law_digits : FnScope ["index", "size", "width", "digits", "rest", "k"] ["index", "size", "width"] (defScope s__law_digits) := ⟨rfl, rfl, rfl, by decide +kernel, rfl, by decide +kernel, by decide +kernel⟩
theorem ok__law_digits {f : Addr} {fd : FuncData} (F : Fun K "_law_digits" "_law_digits" s__law_digits f fd) (hm : mg "_law_digits" = some (.ref f)) (hb : Binds K fd ["index", "size", "width"] []) (M_int : mg "int" = none) (M_range : mg "range" = none) : Cal P w K mg base CX0 "_law_digits" ["index", "size", "width"] 1 (SpR K R__law_digits) := by
  refine def_ok (N := ["index", "size", "width", "digits", "rest", "k"]) (k := 0) F hm hb sc__law_digits (fun rs r h => by cases h <;> rfl) (fun cdv A outer s H E hr hG => ⟨_, (pss_cons (ps_set (i := 3) sc__law_digits.nd rfl (by first | exact Or.inl rfl | exact Or.inr rfl) (pe_lst pa_nil))
    (pss_cons (ps_set (i := 4) sc__law_digits.nd rfl (by first | exact Or.inl rfl | exact Or.inr rfl) (pe_callTy call_int1 (by rfl) M_int (by decide +kernel) (pa_cons (pv 0) pa_nil)))
    (pss_cons (ps_for PassesOwn.never rfl (pi_range1 (by rfl) M_range (pa_cons (pv 2) pa_nil)) (pg_name (i := 5) sc__law_digits.nd rfl (by first | exact Or.inl rfl | exact Or.inr rfl)) (pss_cons (ps_set (i := 3) sc__law_digits.nd rfl (by first | exact Or.inl rfl | exact Or.inr rfl) (pe_op op_cat (pe_lst (pa_cons (pe_op op_mod (pe_callTy call_int1 (by rfl) M_int (by decide +kernel) (pa_cons (pv 4) pa_nil)) (pv 1)) pa_nil)) (pv 3)))
      (pss_one (ps_set (i := 4) sc__law_digits.nd rfl (by first | exact Or.inl rfl | exact Or.inr rfl) (pe_op op_fdiv (pv 4) (pv 1))))))
    (pss_one (ps_ret (pv 3)))))), fun rs r h => ?_⟩)
  cases h with
  | mk index size w h1 hw =>
    show Run K E _ [.fz (.int index), .fz (.int size), .fz (.int (w : Int)), .no, .no, .no] _
    refine run_asg (ev_lst (ds := []) ea_nil (Nat.zero_le _)) ?_
    refine run_asg (ev_cb (ea_cons (ev_var rfl) ea_nil) rc_int) ?_
    refine run_seq (M := fun r => r = [.fz (.int index), .fz (.int size), .fz (.int (w : Int)), .ow (iL (lawDigits index size w)), .fz (.int (digSt index size w).2), .no])
      (s_forR1 [5] (ea_cons (ev_var rfl) ea_nil) (by omega) (fun i r => r = [.fz (.int index), .fz (.int size), .fz (.int (w : Int)), .ow (iL (digSt index size i).1), .fz (.int (digSt index size i).2), .no]) rfl ?_ (fun r h => h)) ?_
    · rintro i r hi rfl
      have hi' : i < w := by rw [Int.toNat_natCast] at hi; exact hi
      refine run_frz (i := 3) rfl ?_
      refine run_asg (r := .ow (iL ((digSt index size i).2 % size :: (digSt index size i).1))) (ev_cat (ds := [.int ((digSt index size i).2 % size)]) (EvR.fr (ev_lst (ea_cons (ev_ic (ev_cb (ea_cons (ev_var rfl) ea_nil) rc_int) (ev_var rfl) h1.1) ea_nil) (by show 1 ≤ sizeLine; decide))) (ev_var rfl) (small100' ?_)) ?_
      · show 1 + (List.map PyData.int _).length ≤ 100000
        rw [List.length_map, digSt_len]
        omega
      · exact s_asg (ev_ic (ev_var rfl) (ev_var rfl) h1) rfl
    · rintro r rfl
      exact s_retO rfl rfl
abbrev s__law_index : Stmt := top 31
theorem sc__law_index : FnScope ["cells", "size", "index", "cell"] ["cells", "size"] (defScope s__law_index) := ⟨rfl, rfl, rfl, by decide +kernel, rfl, by decide +kernel, by decide +kernel⟩
theorem ok__law_index {f : Addr} {fd : FuncData} (F : Fun K "_law_index" "_law_index" s__law_index f fd) (hm : mg "_law_index" = some (.ref f)) (hb : Binds K fd ["cells", "size"] [])  : Cal P w K mg base CX0 "_law_index" ["cells", "size"] 1 (SpR K R__law_index) := by
  refine def_ok (N := ["cells", "size", "index", "cell"]) (k := 0) F hm hb sc__law_index (fun rs r h => by cases h <;> rfl) (fun cdv A outer s H E hr hG => ⟨_, (pss_cons (ps_set (i := 2) sc__law_index.nd rfl (by first | exact Or.inl rfl | exact Or.inr rfl) pe_int)
    (pss_cons (ps_for PassesOwn.never rfl (pi_list (pv 0)) (pg_name (i := 3) sc__law_index.nd rfl (by first | exact Or.inl rfl | exact Or.inr rfl)) (pss_one (ps_set (i := 2) sc__law_index.nd rfl (by first | exact Or.inl rfl | exact Or.inr rfl) (pe_op op_add (pe_op op_mul (pv 2) (pv 1)) (pv 3)))))
    (pss_one (ps_ret (pv 2))))), fun rs r h => ?_⟩)
  cases h with
  | mk cells size h1 =>
    show Run K E _ [.fz (.list (iL cells)), .fz (.int size), .no, .no] _
    refine run_asg ev_int ?_
    refine run_seq (M := fun r => r = [.fz (.list (iL cells)), .fz (.int size), .fz (.int (lawIndex cells size)), .no]) (s_forL [3] (ev_var rfl) (fun i r => r = [.fz (.list (iL cells)), .fz (.int size), .fz (.int (lawIndex (cells.take i) size)), .no]) rfl ?_ (fun r h => ?_)) ?_
    · rintro i d r hi rfl
      obtain ⟨k, hk, rfl⟩ := iL_get hi
      refine s_asg (ev_i (ev_ic (ev_var rfl) (ev_var rfl) (.inr h1)) (ev_var rfl)) ?_
      show _ = _
      rw [take_succ_some hk]
      unfold lawIndex
      rw [List.foldl_append]; rfl
    · rw [iL_len, List.take_length] at h
      exact h
    · rintro r rfl
      exact s_ret (ev_var rfl) rfl
abbrev s__law_table : Stmt := top 32
theorem sc__law_table : FnScope ["cell", "size", "width", "count", "kind", "rest", "draws", "factors", "j", "k", "places", "low", "high"] ["cell", "size", "width"] (defScope s__law_table) := ⟨rfl, rfl, rfl, by decide +kernel, rfl, by decide +kernel, by decide +kernel⟩
theorem ok__law_table {f : Addr} {fd : FuncData} (F : Fun K "_law_table" "_law_table" s__law_table f fd) (hm : mg "_law_table" = some (.ref f)) (hb : Binds K fd ["cell", "size", "width"] []) (c__law_power : Cal P w K mg base CX0 "_law_power" ["size", "exponent"] 1 (SpR K R__law_power)) (c__law_draws : Cal P w K mg base CX0 "_law_draws" ["cell", "limits"] 1 (SpR K R__law_draws)) (c__law_digits : Cal P w K mg base CX0 "_law_digits" ["index", "size", "width"] 1 (SpR K R__law_digits)) (c__law_index : Cal P w K mg base CX0 "_law_index" ["cells", "size"] 1 (SpR K R__law_index)) (M_int : mg "int" = none) (M_max : mg "max" = none) (M_min : mg "min" = none) (M_range : mg "range" = none) (M_sum : mg "sum" = none) : Cal P w K mg base CX0 "_law_table" ["cell", "size", "width"] 2 (SpR K R__law_table) := by
  refine def_ok (N := ["cell", "size", "width", "count", "kind", "rest", "draws", "factors", "j", "k", "places", "low", "high"]) (k := 1) F hm hb sc__law_table (fun rs r h => by cases h <;> rfl) (fun cdv A outer s H E hr hG => ⟨_, (pss_cons (ps_set (i := 3) sc__law_table.nd rfl (by first | exact Or.inl rfl | exact Or.inr rfl) (pe_cal c__law_power hr hG (by decide) (by rfl) (pa_cons (pv 1) (pa_cons (pv 2) pa_nil))))
    (pss_cons (ps_set (i := 4) sc__law_table.nd rfl (by first | exact Or.inl rfl | exact Or.inr rfl) (pe_op op_mod (pe_callTy call_int1 (by rfl) M_int (by decide +kernel) (pa_cons (pv 0) pa_nil)) pe_int))
    (pss_cons (ps_set (i := 5) sc__law_table.nd rfl (by first | exact Or.inl rfl | exact Or.inr rfl) (pe_op op_fdiv (pe_callTy call_int1 (by rfl) M_int (by decide +kernel) (pa_cons (pv 0) pa_nil)) pe_int))
    (pss_cons (ps_set (i := 6) sc__law_table.nd rfl (by first | exact Or.inl rfl | exact Or.inr rfl) (pe_cal c__law_draws hr hG (by decide) (by rfl) (pa_cons (pv 5) (pa_cons (pe_op op_rep (pe_lst (pa_cons (pv 1) pa_nil)) (pv 3)) pa_nil))))
    (pss_cons (ps_if (pt_cmpR op_lt (pv 4) pe_int (nomark _)) (pss_one (ps_ret (pv 6))) pss_nil)
    (pss_cons (ps_if (pt_cmpR op_eq (pv 4) pe_int (nomark _)) (pss_one (ps_ret (pe_op op_rep (pe_lst (pa_cons (pe_ix (show IxR _ (rIxL K) from ix_list) (pv 6) pe_int (fun _ _ => rfl)) pa_nil)) (pv 3)))) pss_nil)
    (pss_cons (ps_set (i := 7) sc__law_table.nd rfl (by first | exact Or.inl rfl | exact Or.inr rfl) (pe_cal c__law_draws hr hG (by decide) (by rfl) (pa_cons (pv 5) (pa_cons (pe_op op_rep (pe_lst (pa_cons (pv 1) pa_nil)) (pe_op op_add (pv 2) pe_int)) pa_nil))))
    (pss_cons (ps_if (pt_cmpR op_eq (pv 4) pe_int (nomark _)) (pss_one (ps_ret (pe_lc (own := [("k", 9)]) (g := gName 9) (tt := tYes) (by rfl) sc__law_table.nd (pi_range1 (by rfl) M_range (pa_cons (pv 3) pa_nil)) (blkOk_by (N := ["cell", "size", "width", "count", "kind", "rest", "draws", "factors", "j", "k", "places", "low", "high"]) (sc := defScope s__law_table) (by decide +kernel)) (fun _ _ _ _ _ => pg_name (i := 9) sc__law_table.nd rfl (by first | exact Or.inl rfl | exact Or.inr rfl)) (fun _ _ _ _ _ => pts_nil) (fun _ _ _ _ _ => (pe_op op_mod (pe_callTy call_int1 (by rfl) M_int (by decide +kernel) (pa_cons (pe_op op_add (pe_callB (show CallR _ (.builtin "sum") (rSum K) from cr_sum rfl) (by rfl) M_sum (by decide +kernel) (pa_cons (pe_lc (own := [("j", 8)]) (g := gName 8) (tt := tYes) (by rfl) sc__law_table.nd (pi_range1 (by rfl) M_range (pa_cons (pv 2) pa_nil)) (by refine blkOk_by (N := ["cell", "size", "width", "count", "kind", "rest", "draws", "factors", "j", "k", "places", "low", "high"]) (sc := relS _ (defScope s__law_table)) ?_; decide +kernel) (fun _ _ _ _ _ => pg_name (i := 8) sc__law_table.nd rfl (by first | exact Or.inl rfl | exact Or.inr rfl)) (fun _ _ _ _ _ => pts_nil) (fun _ _ _ _ _ => (pe_op op_mul (pe_ix (show IxR _ (rIxL K) from ix_list) (pv 7) (pv 8) (fun _ _ => rfl)) (pe_ix (show IxR _ (rIxL K) from ix_list) (pe_cal c__law_digits hr hG (by decide) (by rfl) (pa_cons (pv 9) (pa_cons (pv 1) (pa_cons (pv 2) pa_nil)))) (pv 8) (fun _ _ => rfl))))) pa_nil)) (pe_ix (show IxR _ (rIxL K) from ix_list) (pv 7) (pv 2) (fun _ _ => rfl))) pa_nil)) (pv 1)))))) pss_nil)
    (pss_cons (ps_set (i := 10) sc__law_table.nd rfl (by first | exact Or.inl rfl | exact Or.inr rfl) (pe_cal c__law_draws hr hG (by decide) (by rfl) (pa_cons (pv 5) (pa_cons (pe_lst (pa_cons (pv 2) (pa_cons (pv 2) pa_nil))) pa_nil))))
    (pss_cons (ps_if (pt_cmpR op_eq (pv 4) pe_int (nomark _)) (pss_one (ps_ret (pe_lc (own := [("k", 9)]) (g := gName 9) (tt := tYes) (by rfl) sc__law_table.nd (pi_range1 (by rfl) M_range (pa_cons (pv 3) pa_nil)) (blkOk_by (N := ["cell", "size", "width", "count", "kind", "rest", "draws", "factors", "j", "k", "places", "low", "high"]) (sc := defScope s__law_table) (by decide +kernel)) (fun _ _ _ _ _ => pg_name (i := 9) sc__law_table.nd rfl (by first | exact Or.inl rfl | exact Or.inr rfl)) (fun _ _ _ _ _ => pts_nil) (fun _ _ _ _ _ => (pe_ix (show IxR _ (rIxL K) from ix_list) (pv 6) (pe_ix (show IxR _ (rIxL K) from ix_list) (pe_cal c__law_digits hr hG (by decide) (by rfl) (pa_cons (pv 9) (pa_cons (pv 1) (pa_cons (pv 2) pa_nil)))) (pe_ix (show IxR _ (rIxL K) from ix_list) (pv 10) pe_int (fun _ _ => rfl)) (fun _ _ => rfl)) (fun _ _ => rfl)))))) pss_nil)
    (pss_cons (ps_set (i := 11) sc__law_table.nd rfl (by first | exact Or.inl rfl | exact Or.inr rfl) (pe_callB (show CallR _ (.builtin "min") (rMin K) from cr_min rfl) (by rfl) M_min (by decide +kernel) (pa_cons (pv 10) pa_nil)))
    (pss_cons (ps_set (i := 12) sc__law_table.nd rfl (by first | exact Or.inl rfl | exact Or.inr rfl) (pe_callB (show CallR _ (.builtin "max") (rMax K) from cr_max rfl) (by rfl) M_max (by decide +kernel) (pa_cons (pv 10) pa_nil)))
    (pss_one (ps_ret (pe_lc (own := [("k", 9)]) (g := gName 9) (tt := tYes) (by rfl) sc__law_table.nd (pi_range1 (by rfl) M_range (pa_cons (pv 3) pa_nil)) (blkOk_by (N := ["cell", "size", "width", "count", "kind", "rest", "draws", "factors", "j", "k", "places", "low", "high"]) (sc := defScope s__law_table) (by decide +kernel)) (fun _ _ _ _ _ => pg_name (i := 9) sc__law_table.nd rfl (by first | exact Or.inl rfl | exact Or.inr rfl)) (fun _ _ _ _ _ => pts_nil) (fun _ _ _ _ _ => (pe_ix (show IxR _ (rIxL K) from ix_list) (pv 6) (pe_cal c__law_index hr hG (by decide) (by rfl) (pa_cons (pe_slice (show SlR _ (rSlL K) from sl_list) (pe_cal c__law_digits hr hG (by decide) (by rfl) (pa_cons (pv 9) (pa_cons (pv 1) (pa_cons (pv 2) pa_nil)))) (po_some (pv 11)) (po_some (pe_op op_add (pv 12) pe_int))) (pa_cons (pv 1) pa_nil))) (fun _ _ => rfl)))))))))))))))))), fun rs r h => ?_⟩)
  cases h with
  | mk cell s w hs hw hm =>
    have hp := pow_pos' (s := s) (by omega) w
    have hn := pow_nat (s := s) (by omega) w
    have hw' : w < 4096 := by have := pow_two_le s hs.1 w; omega
    have dl : (lawDraws (cell / 8) (List.replicate (s ^ w).toNat s)).length = (s ^ w).toNat := by rw [draws_len, List.length_replicate]
    have di : InR s (lawDraws (cell / 8) (List.replicate (s ^ w).toNat s)) := draws_rep _ (by omega)
    show Run K E _ [.fz (.int cell), .fz (.int s), .fz (.int (w : Int)), .no, .no, .no, .no, .no, .no, .no, .no, .no, .no] (postOf (.val (.ow (iL (lawTable cell s w)))))
    refine run_asg (r := .fz (.int (s ^ w))) (ev_callS (ea_cons (ev_var rfl) (ea_cons (ev_var rfl) ea_nil)) (.mk s (w : Int) (by omega) (by omega))) ?_
    refine run_asg (ev_ic (ev_cb (ea_cons (ev_var rfl) ea_nil) rc_int) ev_int (by decide)) ?_
    refine run_asg (ev_ic (ev_cb (ea_cons (ev_var rfl) ea_nil) rc_int) ev_int ⟨by decide, by decide⟩) ?_
    refine run_asg (r := .ow (iL (lawDraws (cell / 8) (List.replicate (s ^ w).toNat s)))) (ev_callS (ea_cons (ev_var rfl) (ea_cons (EvR.fr (ev_repI (ev_var rfl) (ev_var rfl) (by omega) (by omega))) ea_nil)) (.mk _ _ (fun l hl => by rw [(List.mem_replicate.mp hl).2]; omega) (by rw [List.length_replicate]; omega))) ?_
    refine run_when (et_test (ev_b (ev_var rfl) ev_int)) (fun hb => ?_) (fun hb => ?_)
    · have c3 : cell % 8 < 3 := of_decide_eq_true hb
      refine run_gone (s_retO rfl ?_)
      show Sl.ow _ = Sl.ow _
      unfold lawTable
      simp only
      rw [if_pos c3]
    have c3 : ¬ cell % 8 < 3 := of_decide_eq_false hb
    refine run_frz (i := 6) rfl ?_
    refine run_when (et_test (ev_eqI (ev_var rfl) ev_int)) (fun hb => ?_) (fun hb => ?_)
    · have c4 : cell % 8 = 3 := of_decide_eq_true hb
      refine run_gone (s_ret (r := .ow (iL (List.replicate (s ^ w).toNat (getI (lawDraws (cell / 8) (List.replicate (s ^ w).toNat s)) 0)))) ?_ ?_)
      · exact ev_repI (ev_ixL (ev_var rfl) ev_int (at0 (by rw [dl]; omega))) (ev_var rfl) (by omega) (by omega)
      · show Sl.ow _ = Sl.ow _
        unfold lawTable
        simp only
        rw [if_neg c3, if_pos c4]
    have c4 : ¬ cell % 8 = 3 := of_decide_eq_false hb
    have fl : (lawDraws (cell / 8) (List.replicate (w + 1) s)).length = w + 1 := by rw [draws_len, List.length_replicate]
    have fi : InR s (lawDraws (cell / 8) (List.replicate (w + 1) s)) := draws_rep _ (by omega)
    refine run_asg (r := .ow (iL (lawDraws (cell / 8) (List.replicate (w + 1) s)))) (ev_callS (ea_cons (ev_var rfl) (ea_cons ((EvR.fr (ev_repI (ev_var rfl) (ev_i (ev_var rfl) ev_int) (by omega) (by omega))).is (by rw [show ((w : Int) + 1).toNat = w + 1 by omega])) ea_nil)) (.mk _ _ (fun l hl => by rw [(List.mem_replicate.mp hl).2]; omega) (by rw [List.length_replicate]; omega))) ?_
    refine run_frz (i := 7) rfl ?_
    have dg : ∀ (k : Int) (ρ : List Sl) (t1 t2 t3 : TE), EvI K t1 ρ k → EvI K t2 ρ s → EvI K t3 ρ (w : Int) → EvR K (tCallS (SpR K R__law_digits) (fun _ => E0) (tCons t1 (tCons t2 (tCons t3 tNil)))) ρ (.ow (iL (lawDigits k s w))) := fun k ρ t1 t2 t3 h1 h2 h3 =>
      ev_callS (ea_cons h1 (ea_cons h2 (ea_cons h3 ea_nil))) (.mk k s w (by omega) (by omega))
    refine run_when (et_test (ev_eqI (ev_var rfl) ev_int)) (fun hb => ?_) (fun hb => ?_)
    · have c5 : cell % 8 = 4 := of_decide_eq_true hb
      refine run_gone (s_ret (r := .ow (iL (lawTable cell s w))) ?_ rfl)
      have e : lawTable cell s w = (List.range (s ^ w).toNat).map fun (k : Nat) => (((List.range w).map fun (j : Nat) => getI (lawDraws (cell / 8) (List.replicate (w + 1) s)) j * getI (lawDigits (k : Int) s w) j).sum + getI (lawDraws (cell / 8) (List.replicate (w + 1) s)) w) % s := by
        unfold lawTable
        simp only
        rw [if_neg c3, if_neg c4, if_pos c5]
      rw [e]
      refine ev_lcR1 (ea_cons (ev_var rfl) ea_nil) (by omega) rangeMap_len (small100' (by rw [rangeMap_len]; omega)) fun k e hk he => ?_
      obtain ⟨_, rfl⟩ := rangeMap_get he
      refine ev_ic (ev_cb (ea_cons (ev_i (ev_cb (ea_cons (EvR.fr (ev_lcR1 (es := iL ((List.range w).map fun (j : Nat) => getI (lawDraws (cell / 8) (List.replicate (w + 1) s)) j * getI (lawDigits (k : Int) s w) j)) (ea_cons (ev_var rfl) ea_nil) (by omega) rangeMap_len (small100' (by rw [rangeMap_len]; omega)) fun j e2 hj he2 => ?_)) ea_nil) rc_sum) (ev_ixL (ev_var rfl) (ev_var rfl) (atI_of (iL_at (getI_at (by rw [fl]; omega)))))) ea_nil) rc_int) (ev_var rfl) (by omega)
      obtain ⟨hj', rfl⟩ := rangeMap_get he2
      have b1 := getI_in fi (i := j) (by rw [fl]; omega)
      refine ev_ic (ev_ixL (ev_var rfl) (ev_var rfl) (atI_of (iL_at (getI_at (by rw [fl]; omega))))) (ev_ixL (EvR.fr (dg (k : Int) _ _ _ _ (ev_var rfl) (ev_var rfl) (ev_var rfl))) (ev_var rfl) (atI_of (iL_at (getI_at (by rw [digits_len]; omega))))) (.inl (by omega))
    have c5 : ¬ cell % 8 = 4 := of_decide_eq_false hb
    have hd := two_draws (cell / 8) hw
    have pl : (lawDraws (cell / 8) [(w : Int), (w : Int)]).length = 2 := by rw [draws_len]; rfl
    refine run_asg (r := .ow (iL (lawDraws (cell / 8) [(w : Int), (w : Int)]))) (ev_callS (ea_cons (ev_var rfl) (ea_cons (EvR.fr (ev_lst (ds := iL [(w : Int), (w : Int)]) (ea_cons (ev_var rfl) (ea_cons (ev_var rfl) ea_nil)) (by show 2 ≤ sizeLine; decide))) ea_nil)) (.mk _ _ (two_lim hw hw') (by show 2 < 100000; decide))) ?_
    refine run_frz (i := 10) rfl ?_
    generalize hps : lawDraws (cell / 8) [(w : Int), (w : Int)] = ps at hd pl ⊢
    refine run_when (et_test (ev_eqI (ev_var rfl) ev_int)) (fun hb => ?_) (fun hb => ?_)
    · have c6 : cell % 8 = 5 := of_decide_eq_true hb
      refine run_gone (s_ret (r := .ow (iL (lawTable cell s w))) ?_ rfl)
      have e : lawTable cell s w = (List.range (s ^ w).toNat).map fun (k : Nat) => getI (lawDraws (cell / 8) (List.replicate (s ^ w).toNat s)) (getI (lawDigits (k : Int) s w) (getI ps 0).toNat).toNat := by
        unfold lawTable
        simp only
        rw [if_neg c3, if_neg c4, if_neg c5, if_pos c6, hps]
      rw [e]
      refine ev_lcR1 (ea_cons (ev_var rfl) ea_nil) (by omega) rangeMap_len (small100' (by rw [rangeMap_len]; omega)) fun k e hk he => ?_
      obtain ⟨_, rfl⟩ := rangeMap_get he
      have b0 := getI_in (digits_in (size := s) (by omega) (k : Int) w) (i := (getI ps 0).toNat) (by rw [digits_len]; omega)
      have hsw : s ≤ s ^ w := by
        have := pow_mono (s := s) (by omega) hw
        rw [show s ^ 1 = s from by rw [Int.pow_succ, Int.pow_zero, Int.one_mul]] at this
        exact this
      refine ev_ixL (i := getI (lawDigits (k : Int) s w) (getI ps 0).toNat) (ev_var rfl) (ev_ixL (i := getI ps 0) (EvR.fr (dg (k : Int) _ _ _ _ (ev_var rfl) (ev_var rfl) (ev_var rfl))) (ev_ixL (i := 0) (ev_var rfl) ev_int (at0 (by rw [pl]; omega))) ?_) ?_
      · rw [← Int.toNat_of_nonneg hd.1, Int.toNat_natCast]
        exact atI_of (iL_at (getI_at (by rw [digits_len]; omega)))
      · rw [← Int.toNat_of_nonneg b0.1, Int.toNat_natCast]
        exact atI_of (iL_at (getI_at (by rw [dl]; omega)))
    have c6 : ¬ cell % 8 = 5 := of_decide_eq_false hb
    have pe : ps = [getI ps 0, getI ps 1] := by
      match ps, pl with
      | [a, b], _ => rfl
    have hmin : RC K (rMin K) [.fz (.list (iL ps))] (.fz (.int (min (getI ps 0) (getI ps 1)))) := by
      refine rc_min ?_ ?_
      · rw [pe]; by_cases h : getI ps 0 ≤ getI ps 1
        · have : min (getI [getI ps 0, getI ps 1] 0) (getI [getI ps 0, getI ps 1] 1) = getI ps 0 := Int.min_eq_left h
          rw [this]; simp
        · have : min (getI [getI ps 0, getI ps 1] 0) (getI [getI ps 0, getI ps 1] 1) = getI ps 1 := Int.min_eq_right (show getI ps 1 ≤ getI ps 0 by omega)
          rw [this]; simp
      · intro y hy
        rw [pe] at hy
        have : y = getI ps 0 ∨ y = getI ps 1 := by simpa using hy
        omega
    have hmax : RC K (rMax K) [.fz (.list (iL ps))] (.fz (.int (max (getI ps 0) (getI ps 1)))) := by
      refine rc_max ?_ ?_
      · rw [pe]; by_cases h : getI ps 0 ≤ getI ps 1
        · have : max (getI [getI ps 0, getI ps 1] 0) (getI [getI ps 0, getI ps 1] 1) = getI ps 1 := Int.max_eq_right h
          rw [this]; simp
        · have : max (getI [getI ps 0, getI ps 1] 0) (getI [getI ps 0, getI ps 1] 1) = getI ps 0 := Int.max_eq_left (show getI ps 1 ≤ getI ps 0 by omega)
          rw [this]; simp
      · intro y hy
        rw [pe] at hy
        have : y = getI ps 0 ∨ y = getI ps 1 := by simpa using hy
        omega
    refine run_asg (r := .fz (.int (min (getI ps 0) (getI ps 1)))) (ev_cb (ea_cons (ev_var rfl) ea_nil) hmin) ?_
    refine run_asg (r := .fz (.int (max (getI ps 0) (getI ps 1)))) (ev_cb (ea_cons (ev_var rfl) ea_nil) hmax) ?_
    refine s_ret (r := .ow (iL (lawTable cell s w))) ?_ rfl
    have e : lawTable cell s w = (List.range (s ^ w).toNat).map fun (k : Nat) => getI (lawDraws (cell / 8) (List.replicate (s ^ w).toNat s)) (lawIndex (((lawDigits (k : Int) s w).drop (min (getI ps 0) (getI ps 1)).toNat).take ((max (getI ps 0) (getI ps 1)).toNat + 1 - (min (getI ps 0) (getI ps 1)).toNat)) s).toNat := by
      unfold lawTable
      simp only
      rw [if_neg c3, if_neg c4, if_neg c5, if_neg c6, hps]
    rw [e]
    have l0 : 0 ≤ min (getI ps 0) (getI ps 1) := by omega
    have h0 : 0 ≤ max (getI ps 0) (getI ps 1) := by omega
    have hw2 : max (getI ps 0) (getI ps 1) < (w : Int) := by omega
    generalize min (getI ps 0) (getI ps 1) = lo at l0 ⊢
    generalize max (getI ps 0) (getI ps 1) = hi at h0 hw2 ⊢
    refine ev_lcR1 (ea_cons (ev_var rfl) ea_nil) (by omega) rangeMap_len (small100' (by rw [rangeMap_len]; omega)) fun k e hk he => ?_
    obtain ⟨_, rfl⟩ := rangeMap_get he
    have b := cut_digits_ok (w := w) hs l0 hw2 (k : Int)
    simp only at b
    refine ev_ixL (i := lawIndex (((lawDigits (k : Int) s w).drop lo.toNat).take (hi.toNat + 1 - lo.toNat)) s) (ev_var rfl) (ev_callS (ea_cons (d := .list (iL (((lawDigits (k : Int) s w).drop lo.toNat).take (hi.toNat + 1 - lo.toNat)))) (EvR.fr ?_) (ea_cons (ev_var rfl) ea_nil)) (.mk _ _ (by omega))) ?_
    · have g := ev_sl (K := K) (EvR.fr (dg (k : Int) ([.fz (.int cell), .fz (.int s), .fz (.int (w : Int)), .fz (.int (s ^ w)), .fz (.int (cell % 8)), .fz (.int (cell / 8)), .fz (.list (iL (lawDraws (cell / 8) (List.replicate (s ^ w).toNat s)))), .fz (.list (iL (lawDraws (cell / 8) (List.replicate (w + 1) s)))), .no, .fz (.int (k : Int)), .fz (.list (iL ps)), .fz (.int lo), .fz (.int hi)]) _ _ _ (ev_var (i := 9) rfl) (ev_var (i := 1) rfl) (ev_var (i := 2) rfl))) (eo_some (ev_var (i := 11) (d := .int lo) rfl)) (eo_some (ev_i (g := fun i j => i + j) (ev_var (i := 12) (d := .int hi) rfl) (ev_int (i := 1))))
      rw [iL_cut, ← Int.toNat_of_nonneg l0, ← Int.toNat_of_nonneg h0, show ((hi.toNat : Int) + 1) = ((hi.toNat + 1 : Nat) : Int) by omega, cut_nat] at g
      rw [Int.toNat_of_nonneg l0, Int.toNat_of_nonneg h0] at g
      exact g
    · rw [← Int.toNat_of_nonneg b.2.1, Int.toNat_natCast]
      exact atI_of (iL_at (getI_at (by rw [dl]; omega)))
abbrev s__law_map : Stmt := top 33
theorem sc__law_map : FnScope ["cell", "more", "most", "draws", "size", "width", "k", "offset"] ["cell", "more", "most"] (defScope s__law_map) := ⟨rfl, rfl, rfl, by decide +kernel, rfl, by decide +kernel, by decide +kernel⟩
theorem ok__law_map {f : Addr} {fd : FuncData} (F : Fun K "_law_map" "_law_map" s__law_map f fd) (hm : mg "_law_map" = some (.ref f)) (hb : Binds K fd ["cell", "more", "most"] []) (c__law_draws : Cal P w K mg base CX0 "_law_draws" ["cell", "limits"] 1 (SpR K R__law_draws)) (c__law_power : Cal P w K mg base CX0 "_law_power" ["size", "exponent"] 1 (SpR K R__law_power)) (c__law_table : Cal P w K mg base CX0 "_law_table" ["cell", "size", "width"] 2 (SpR K R__law_table)) (M_range : mg "range" = none) : Cal P w K mg base CX0 "_law_map" ["cell", "more", "most"] 3 (SpR K R__law_map) := by
  refine def_ok (N := ["cell", "more", "most", "draws", "size", "width", "k", "offset"]) (k := 2) F hm hb sc__law_map (fun rs r h => by cases h <;> rfl) (fun cdv A outer s H E hr hG => ⟨_, (pss_cons (ps_set (i := 3) sc__law_map.nd rfl (by first | exact Or.inl rfl | exact Or.inr rfl) (pe_cal c__law_draws hr hG (by decide) (by rfl) (pa_cons (pv 0) (pa_cons (pe_lst (pa_cons pe_int (pa_cons pe_int (pa_cons pe_int (pa_cons pe_int pa_nil))))) pa_nil))))
    (pss_cons (ps_set (i := 4) sc__law_map.nd rfl (by first | exact Or.inl rfl | exact Or.inr rfl) (pe_op op_add pe_int (pe_ix (show IxR _ (rIxL K) from ix_list) (pv 3) pe_int (fun _ _ => rfl))))
    (pss_cons (ps_set (i := 5) sc__law_map.nd rfl (by first | exact Or.inl rfl | exact Or.inr rfl) (pe_op op_add pe_int (pe_ix (show IxR _ (rIxL K) from ix_list) (pv 3) pe_int (fun _ _ => rfl))))
    (pss_cons (ps_for PassesOwn.never rfl (pi_range1 (by rfl) M_range (pa_cons pe_int pa_nil)) (pg_name (i := 6) sc__law_map.nd rfl (by first | exact Or.inl rfl | exact Or.inr rfl)) (pss_one (ps_if (PW.pt (pw_and (pt_cmpR op_gt (pv 5) pe_int (nomark _)) (pw_and1 (pt_cmpR op_gt (pe_cal c__law_power hr hG (by decide) (by rfl) (pa_cons (pv 4) (pa_cons (pv 5) pa_nil))) (pv 2) (nomark _))))) (pss_one (ps_set (i := 5) sc__law_map.nd rfl (by first | exact Or.inl rfl | exact Or.inr rfl) (pe_op op_sub (pv 5) pe_int))) pss_nil)))
    (pss_cons (ps_set (i := 7) sc__law_map.nd rfl (by first | exact Or.inl rfl | exact Or.inr rfl) (pe_ix (show IxR _ (rIxL K) from ix_list) (pe_lst (pa_cons pe_int (pa_cons (pe_un un_neg pe_int) (pa_cons pe_int (pa_cons pe_int (pa_cons (pe_un un_neg pe_int) (pa_cons (pe_op op_sub (pe_ix (show IxR _ (rIxL K) from ix_list) (pv 3) pe_int (fun _ _ => rfl)) pe_int) (pa_cons (pe_op op_sub (pe_ix (show IxR _ (rIxL K) from ix_list) (pv 3) pe_int (fun _ _ => rfl)) pe_int) pa_nil)))))))) (pe_ix (show IxR _ (rIxL K) from ix_list) (pv 3) pe_int (fun _ _ => rfl)) (fun _ _ => rfl)))
    (pss_one (ps_ret (pe_tup (pa_cons (pv 4) (pa_cons (pv 7) (pa_cons (pv 5) (pa_cons (pe_cal c__law_table hr hG (by decide) (by rfl) (pa_cons (pv 1) (pa_cons (pv 4) (pa_cons (pv 5) pa_nil)))) pa_nil)))))))))))), fun rs r h => ?_⟩)
  cases h with
  | mk cell more most hm =>
    have hd := four_draws cell
    have dl : (lawDraws cell [3, 6, 7, 201]).length = 4 := by rw [draws_len]; rfl
    show Run K E _ [.fz (.int cell), .fz (.int more), .fz (.int most), .no, .no, .no, .no, .no] _
    refine run_asg (r := .ow (iL (lawDraws cell [3, 6, 7, 201]))) (ev_callS (ea_cons (ev_var rfl) (ea_cons (EvR.fr (ev_lst (ds := iL [3, 6, 7, 201]) (ea_cons ev_int (ea_cons ev_int (ea_cons ev_int (ea_cons ev_int ea_nil)))) (by show 4 ≤ sizeLine; decide))) ea_nil)) (.mk _ _ (by decide) (by decide))) ?_
    refine run_frz (i := 3) rfl ?_
    refine run_asg (r := .fz (.int (mpS cell))) (ev_i ev_int (ev_ixL (ev_var rfl) ev_int (at0 (by rw [dl]; decide)))) ?_
    refine run_asg (r := .fz (.int (1 + getI (lawDraws cell [3, 6, 7, 201]) 1))) (ev_i ev_int (ev_ixL (ev_var rfl) ev_int (at1 (by rw [dl]; decide)))) ?_
    have hs := mpS_ok cell
    have hw0 : 1 + getI (lawDraws cell [3, 6, 7, 201]) 1 = ((1 + (getI (lawDraws cell [3, 6, 7, 201]) 1).toNat : Nat) : Int) := by omega
    generalize hw : 1 + (getI (lawDraws cell [3, 6, 7, 201]) 1).toNat = w0 at hw0
    refine run_seq (M := fun r => r = [.fz (.int cell), .fz (.int more), .fz (.int most), .fz (.list (iL (lawDraws cell [3, 6, 7, 201]))), .fz (.int (mpS cell)), .fz (.int (mpW cell most : Int)), .no, .no])
      (s_forR1 [6] (ea_cons ev_int ea_nil) (by decide) (fun i r => r = [.fz (.int cell), .fz (.int more), .fz (.int most), .fz (.list (iL (lawDraws cell [3, 6, 7, 201]))), .fz (.int (mpS cell)), .fz (.int (iterW (mpS cell) most w0 i : Int)), .no, .no]) (by rw [hw0]; rfl) ?_ (fun r h => ?_)) ?_
    · rintro i r hi rfl
      have hp := iterW_pos (s := mpS cell) (most := most) (w := w0) (by omega) i
      have hle := iterW_le (s := mpS cell) (most := most) (w := w0) i
      generalize hv : iterW (mpS cell) most w0 i = v at hp hle
      have e : iterW (mpS cell) most w0 (i + 1) = stepW (mpS cell) most v := by rw [← hv]; rfl
      refine s_when (b := decide (1 < v) && decide (most < mpS cell ^ v)) (et_and (et_is (et_test (ev_b (g := fun i j => decide (j < i)) (a := (v : Int)) (b := 1) (ev_var rfl) ev_int)) ?_) fun _ => et_is (et_test (ev_b (g := fun i j => decide (j < i)) (a := mpS cell ^ v) (b := most) ((ev_callS (ea_cons (ev_var rfl) (ea_cons (ev_var rfl) ea_nil)) (.mk (mpS cell) (v : Int) (by omega) (by omega))).is (by rw [Int.toNat_natCast])) (ev_var rfl))) rfl) (fun hb => ?_) (fun hb => ?_)
      · by_cases h : 1 < v
        · rw [decide_eq_true h, decide_eq_true (show (1 : Int) < (v : Int) by omega)]
        · rw [decide_eq_false h, decide_eq_false (show ¬ (1 : Int) < (v : Int) by omega)]
      · rw [Bool.and_eq_true, decide_eq_true_eq, decide_eq_true_eq] at hb
        refine s_asg (r := .fz (.int (stepW (mpS cell) most v : Int))) ((ev_i (ev_var rfl) ev_int).int_is ?_) ?_
        · unfold stepW
          rw [if_pos hb]; omega
        · show _ = _
          rw [e]; rfl
      · have hb' : ¬ (1 < v ∧ most < mpS cell ^ v) := fun z => by
          rw [decide_eq_true z.1, decide_eq_true z.2] at hb
          cases hb
        show _ = _
        rw [e]
        unfold stepW
        rw [if_neg hb']; rfl
    · have h2 : mpW cell most = iterW (mpS cell) most w0 6 := by unfold mpW; rw [hw]
      rw [h2]; exact h
    · rintro r rfl
      refine run_asg (r := .fz (.int (mpO cell))) (ev_ixL (i := getI (lawDraws cell [3, 6, 7, 201]) 2) (ds := iL [0, -1, 1, 100, -100, getI (lawDraws cell [3, 6, 7, 201]) 3 - 100, getI (lawDraws cell [3, 6, 7, 201]) 3 - 100]) (EvR.fr (ev_lst (ea_cons ev_int (ea_cons (ev_neg ev_int) (ea_cons ev_int (ea_cons ev_int (ea_cons (ev_neg ev_int)
        (ea_cons (ev_i (ev_ixL (ev_var rfl) ev_int (at3 (by rw [dl]; decide))) ev_int) (ea_cons (ev_i (ev_ixL (ev_var rfl) ev_int (at3 (by rw [dl]; decide))) ev_int) ea_nil))))))) (by show 7 ≤ sizeLine; decide))) (ev_ixL (ev_var rfl) ev_int (at2 (by rw [dl]; decide))) (atN hd.2.2.1.1 (by show _ < (7 : Int); omega))) ?_
      have hw := mpW_ok cell hm.1
      refine s_ret (r := .fz (lawMapD cell more most)) (ev_tup (ds := [.int (mpS cell), .int (mpO cell), .int (mpW cell most : Int), .list (iL (lawTable more (mpS cell) (mpW cell most)))]) (ea_cons (ev_var rfl) (ea_cons (ev_var rfl) (ea_cons (ev_var rfl) (ea_cons (EvR.fr (ev_callS (ea_cons (ev_var rfl) (ea_cons (ev_var rfl) (ea_cons (ev_var rfl) ea_nil))) (.mk more (mpS cell) (mpW cell most) hs hw.1 (by omega)))) ea_nil)))) (by show 4 ≤ sizeLine; decide)) rfl
abbrev s__law_cell : Stmt := top 27
theorem sc__law_cell : FnScope ["script", "k"] ["script", "k"] (defScope s__law_cell) := ⟨rfl, rfl, rfl, by decide +kernel, rfl, by decide +kernel, by decide +kernel⟩
theorem ok__law_cell {f : Addr} {fd : FuncData} (F : Fun K "_law_cell" "_law_cell" s__law_cell f fd) (hm : mg "_law_cell" = some (.ref f)) (hb : Binds K fd ["script", "k"] []) (M_int : mg "int" = none) (M_len : mg "len" = none) : Cal P w K mg base CX0 "_law_cell" ["script", "k"] 1 (SpR K R__law_cell) := by
  refine def_ok (N := ["script", "k"]) (k := 0) F hm hb sc__law_cell (fun rs r h => by cases h <;> rfl) (fun cdv A outer s H E hr hG => ⟨_, (pss_cons (ps_if (pt_cmpR op_lt (pv 1) (pe_callB (show CallR _ (.builtin "len") (rLen K) from call_len_seq) (by rfl) M_len (by decide +kernel) (pa_cons (pv 0) pa_nil)) (nomark _)) (pss_one (ps_ret (pe_callTy call_int1 (by rfl) M_int (by decide +kernel) (pa_cons (pe_ix (show IxR _ (rIxL K) from ix_list) (pv 0) (pv 1) (fun _ _ => rfl)) pa_nil)))) pss_nil)
    (pss_one (ps_ret pe_int))), fun rs r h => ?_⟩)
  cases h with
  | mk ns k h0 =>
    show Run K E _ [.sq (ns.map V.int), .fz (.int k)] _
    refine run_when (b := decide (k < (ns.length : Int))) (et_test ((ev_b (ev_var rfl) (ev_cb (ea_consS (ev_varS rfl) ea_nil) rc_lenS)).is (by rw [List.length_map]))) (fun hb => ?_) (fun hb => ?_)
    · have hk : k < (ns.length : Int) := of_decide_eq_true hb
      have e : ns[k.toNat]? = some (cellAt ns k) := by
        unfold cellAt
        rw [if_pos hk, List.getElem?_eq_getElem (by omega), List.getD_eq_getElem?_getD, List.getElem?_eq_getElem (by omega)]; rfl
      have e2 : atI ns k = some (cellAt ns k) := by
        have := atI_of e
        rw [Int.toNat_of_nonneg h0] at this
        exact this
      exact run_gone (s_ret (ev_cb (ea_cons (ev_ixS (ev_varS rfl) (ev_var rfl) e2) ea_nil) rc_int) rfl)
    · have hk : ¬ k < (ns.length : Int) := of_decide_eq_false hb
      refine s_ret (ev_int.int_is ?_) rfl
      unfold cellAt
      rw [if_neg hk]
abbrev s__law_second : Stmt := top 43
theorem sc__law_second : FnScope ["first", "cell", "more", "size", "width", "k"] ["first", "cell", "more"] (defScope s__law_second) := ⟨rfl, rfl, rfl, by decide +kernel, rfl, by decide +kernel, by decide +kernel⟩
theorem ok__law_second {f : Addr} {fd : FuncData} (F : Fun K "_law_second" "_law_second" s__law_second f fd) (hm : mg "_law_second" = some (.ref f)) (hb : Binds K fd ["first", "cell", "more"] []) (c__law_power : Cal P w K mg base CX0 "_law_power" ["size", "exponent"] 1 (SpR K R__law_power)) (c__law_table : Cal P w K mg base CX0 "_law_table" ["cell", "size", "width"] 2 (SpR K R__law_table)) (M_int : mg "int" = none) (M_range : mg "range" = none) : Cal P w K mg base CX0 "_law_second" ["first", "cell", "more"] 3 (SpR K R__law_second) := by
  refine def_ok (N := ["first", "cell", "more", "size", "width", "k"]) (k := 2) F hm hb sc__law_second (fun rs r h => by cases h <;> rfl) (fun cdv A outer s H E hr hG => ⟨_, (pss_cons (ps_set (i := 3) sc__law_second.nd rfl (by first | exact Or.inl rfl | exact Or.inr rfl) (pe_ix (show IxR _ (rIxT K) from ix_tup) (pv 0) pe_int (fun _ _ => rfl)))
    (pss_cons (ps_set (i := 4) sc__law_second.nd rfl (by first | exact Or.inl rfl | exact Or.inr rfl) (pe_op op_add pe_int (pe_op op_mod (pe_callTy call_int1 (by rfl) M_int (by decide +kernel) (pa_cons (pv 1) pa_nil)) pe_int)))
    (pss_cons (ps_for PassesOwn.never rfl (pi_range1 (by rfl) M_range (pa_cons pe_int pa_nil)) (pg_name (i := 5) sc__law_second.nd rfl (by first | exact Or.inl rfl | exact Or.inr rfl)) (pss_one (ps_if (PW.pt (pw_and (pt_cmpR op_gt (pv 4) pe_int (nomark _)) (pw_and1 (pt_cmpR op_gt (pe_cal c__law_power hr hG (by decide) (by rfl) (pa_cons (pv 3) (pa_cons (pe_op op_sub (pe_op op_add (pe_ix (show IxR _ (rIxT K) from ix_tup) (pv 0) pe_int (fun _ _ => rfl)) (pv 4)) pe_int) pa_nil))) pe_int (nomark _))))) (pss_one (ps_set (i := 4) sc__law_second.nd rfl (by first | exact Or.inl rfl | exact Or.inr rfl) (pe_op op_sub (pv 4) pe_int))) pss_nil)))
    (pss_one (ps_ret (pe_tup (pa_cons (pv 3) (pa_cons (pe_op op_sub (pe_op op_mod (pe_op op_fdiv (pe_callTy call_int1 (by rfl) M_int (by decide +kernel) (pa_cons (pv 1) pa_nil)) pe_int) pe_int) pe_int) (pa_cons (pv 4) (pa_cons (pe_cal c__law_table hr hG (by decide) (by rfl) (pa_cons (pv 2) (pa_cons (pv 3) (pa_cons (pv 4) pa_nil)))) pa_nil)))))))))), fun rs r h => ?_⟩)
  cases h with
  | mk s m cell more tm h70 =>
    have hs : 2 ≤ s ∧ s ≤ 4 := Tb.hs tm
    have hw12 : m.2.1 ≤ 12 := Tb.w12 tm
    have hw1 : 1 ≤ m.2.1 := Tb.hw tm
    have ok := secW_ok hs hw1 (show s ^ m.2.1 ≤ 600 by omega) cell
    have c0 : ∀ (i : Nat) (ρ : List Sl) (m : MS), ρ[i]? = some (.fz (msC s m)) → EvI K (tOp (rIxT K) (tVar i) (tC (.int 0))) ρ s := fun i ρ m h => ev_ixT (ds := [.int s, .int m.1, .int (m.2.1 : Int), .list (iL m.2.2)]) (ev_var h) ev_int rfl
    have c2 : ∀ (i : Nat) (ρ : List Sl) (m : MS), ρ[i]? = some (.fz (msC s m)) → EvI K (tOp (rIxT K) (tVar i) (tC (.int 2))) ρ (m.2.1 : Int) := fun i ρ m h => ev_ixT (ds := [.int s, .int m.1, .int (m.2.1 : Int), .list (iL m.2.2)]) (ev_var h) ev_int rfl
    have a0 := Int.emod_nonneg cell (b := 4) (by decide)
    have a1 := Int.emod_lt_of_pos cell (b := 4) (by decide)
    show Run K E _ [.fz (msC s m), .fz (.int cell), .fz (.int more), .no, .no, .no] _
    refine run_asg (c0 0 _ m rfl) ?_
    refine run_asg (r := .fz (.int ((1 + (cell % 4).toNat : Nat) : Int))) (EvR.int_is (ev_i ev_int (ev_ic (ev_cb (ea_cons (ev_var rfl) ea_nil) rc_int) ev_int (by decide))) (by omega)) ?_
    refine run_seq (M := fun r => ∃ x, r = [.fz (msC s m), .fz (.int cell), .fz (.int more), .fz (.int s), .fz (.int (secW s m.2.1 cell : Int)), x])
      (s_forR1 [] (m := 4) (ea_cons ev_int ea_nil) (by decide) (fun i r => ∃ x, r = [.fz (msC s m), .fz (.int cell), .fz (.int more), .fz (.int s), .fz (.int ((itA (shr2 s m.2.1) i (1 + (cell % 4).toNat) : Nat) : Int)), x]) ⟨_, rfl⟩ ?_ (fun r h => h)) ?_
    · rintro i r hi ⟨x, rfl⟩
      have q := shr2_it (s := s) (w1 := m.2.1) (w := 1 + (cell % 4).toNat) (by omega) i
      have es : itA (shr2 s m.2.1) (i + 1) (1 + (cell % 4).toNat) = shr2 s m.2.1 (itA (shr2 s m.2.1) i (1 + (cell % 4).toNat)) := itA_snoc _ _ _
      rw [es]
      generalize itA (shr2 s m.2.1) i (1 + (cell % 4).toNat) = v at q
      refine s_when (b := decide (1 < (v : Int)) && decide (600 < s ^ (m.2.1 + v - 1))) (et_and (et_test (ev_b (ev_var rfl) ev_int)) fun _ => et_test (ev_b ((ev_callS (ea_cons (ev_var rfl) (ea_cons ((ev_i (ev_i (c2 0 _ m rfl) (ev_var rfl)) ev_int).int_is (show (m.2.1 : Int) + (v : Int) - 1 = ((m.2.1 + v - 1 : Nat) : Int) by omega)) ea_nil)) (.mk s _ (by omega) (by omega))).int_is (by rw [Int.toNat_natCast])) ev_int)) (fun hb => ?_) (fun hb => ?_)
      · rw [Bool.and_eq_true, decide_eq_true_eq, decide_eq_true_eq] at hb
        have e : shr2 s m.2.1 v = v - 1 := by unfold shr2; rw [if_pos ⟨by omega, hb.2⟩]
        rw [e]
        exact s_asg (r := .fz (.int ((v - 1 : Nat) : Int))) ((ev_i (ev_var rfl) ev_int).int_is (show (v : Int) - 1 = _ by omega)) ⟨_, rfl⟩
      · have e : shr2 s m.2.1 v = v := by
          unfold shr2
          rw [if_neg fun z => ?_]
          rw [decide_eq_true (show 1 < (v : Int) by omega), decide_eq_true z.2] at hb
          cases hb
        rw [e]
        exact ⟨_, rfl⟩
    rintro _ ⟨x, rfl⟩
    have b0 := Int.emod_nonneg (cell / 4) (b := 5) (by decide)
    show Run K E _ _ (postOf (.val (.fz (.tuple [.int s, .int (cell / 4 % 5 - 2), .int (secW s m.2.1 cell : Int), .list (iL (lawTable more s (secW s m.2.1 cell)))]))))
    generalize secW s m.2.1 cell = v at ok
    exact s_ret (ev_tup (ds := [.int s, .int (cell / 4 % 5 - 2), .int (v : Int), .list (iL (lawTable more s v))]) (ea_cons (ev_var rfl) (ea_cons (ev_i (ev_ic (ev_ic (ev_cb (ea_cons (ev_var rfl) ea_nil) rc_int) ev_int ⟨by decide, by decide⟩) ev_int (by decide)) ev_int) (ea_cons (ev_var rfl) (ea_cons (EvR.fr (ev_callS (ea_cons (ev_var rfl) (ea_cons (ev_var rfl) (ea_cons (ev_var rfl) ea_nil))) (.mk more s v hs ok.1.1 (by omega)))) ea_nil)))) (by show 4 ≤ sizeLine; decide)) rfl
abbrev s_offset_fits : Stmt := top 9
theorem sc_offset_fits : FnScope ["offset"] ["offset"] (defScope s_offset_fits) := ⟨rfl, rfl, rfl, by decide +kernel, rfl, by decide +kernel, by decide +kernel⟩
theorem ok_offset_fits {f : Addr} {fd : FuncData} (F : Fun K "offset_fits" "offset_fits" s_offset_fits f fd) (hm : mg "offset_fits" = some (.ref f)) (hb : Binds K fd ["offset"] []) (tk_MOST_OFFSET : Tok) (C_MOST_OFFSET : mg "MOST_OFFSET" = some (.int 100 tk_MOST_OFFSET)) : Cal P w K mg base CX0 "offset_fits" ["offset"] 1 (SpR K R_offset_fits) := by
  refine def_ok (N := ["offset"]) (k := 0) F hm hb sc_offset_fits (fun rs r h => by cases h <;> rfl) (fun cdv A outer s H E hr hG => ⟨_, (pss_one (ps_ret (pe_chain op_le op_le (pe_un un_neg (pe_glob (v := .int 100) (by rfl) C_MOST_OFFSET ⟨_, rfl⟩)) (pv 0) (pe_glob (v := .int 100) (by rfl) C_MOST_OFFSET ⟨_, rfl⟩)))), fun rs r h => ?_⟩)
  cases h with
  | mk o =>
    show Run K E _ [.fz (.int o)] _
    exact s_ret (ev_chain (ev_neg ev_int) (ev_var rfl) ev_int) rfl
abbrev s_image_numbers : Stmt := top 18
theorem sc_image_numbers : FnScope ["one", "length", "size", "_", "table", "numbers", "number"] ["one", "length"] (defScope s_image_numbers) := ⟨rfl, rfl, rfl, by decide +kernel, rfl, by decide +kernel, by decide +kernel⟩
theorem ok_image_numbers {f : Addr} {fd : FuncData} (F : Fun K "image_numbers" "image_numbers" s_image_numbers f fd) (hm : mg "image_numbers" = some (.ref f)) (hb : Binds K fd ["one", "length"] []) (M_len : mg "len" = none) (M_list : mg "list" = none) (M_range : mg "range" = none) : Cal P w K mg base CX0 "image_numbers" ["one", "length"] 1 (SpR K R_image_numbers) := by
  refine def_ok (N := ["one", "length", "size", "_", "table", "numbers", "number"]) (k := 0) F hm hb sc_image_numbers (fun rs r h => by cases h <;> rfl) (fun cdv A outer s H E hr hG => ⟨_, (pss_cons (ps_asg (pv 0) (pg_tup (by rfl) (pgs_cons (pg_name (i := 2) sc_image_numbers.nd rfl (by first | exact Or.inl rfl | exact Or.inr rfl)) (pgs_cons (pg_name (i := 3) sc_image_numbers.nd rfl (by first | exact Or.inl rfl | exact Or.inr rfl)) (pgs_cons (pg_name (i := 3) sc_image_numbers.nd rfl (by first | exact Or.inl rfl | exact Or.inr rfl)) (pgs_cons (pg_name (i := 4) sc_image_numbers.nd rfl (by first | exact Or.inl rfl | exact Or.inr rfl)) pgs_nil))))))
    (pss_cons (ps_set (i := 5) sc_image_numbers.nd rfl (by first | exact Or.inl rfl | exact Or.inr rfl) (pe_callTy (show CallR _ (.type "list") (rList K) from call_list_of) (by rfl) M_list (by decide +kernel) (pa_cons (pv 4) pa_nil)))
    (pss_cons (ps_for PassesOwn.never rfl (pi_range1 (by rfl) M_range (pa_cons (pe_op op_sub (pv 1) pe_int) pa_nil)) (pg_name (i := 3) sc_image_numbers.nd rfl (by first | exact Or.inl rfl | exact Or.inr rfl)) (pss_one (ps_set (i := 5) sc_image_numbers.nd rfl (by first | exact Or.inl rfl | exact Or.inr rfl) (pe_lc (own := [("number", 6)]) (g := gName 6) (tt := tYes) (by rfl) sc_image_numbers.nd (pi_range1 (by rfl) M_range (pa_cons (pe_op op_mul (pe_callB (show CallR _ (.builtin "len") (rLen K) from call_len_seq) (by rfl) M_len (by decide +kernel) (pa_cons (pv 5) pa_nil)) (pv 2)) pa_nil)) (blkOk_by (N := ["one", "length", "size", "_", "table", "numbers", "number"]) (sc := defScope s_image_numbers) (by decide +kernel)) (fun _ _ _ _ _ => pg_name (i := 6) sc_image_numbers.nd rfl (by first | exact Or.inl rfl | exact Or.inr rfl)) (fun _ _ _ _ _ => pts_nil) (fun _ _ _ _ _ => (pe_op op_add (pe_op op_mul (pe_ix (show IxR _ (rIxL K) from ix_list) (pv 5) (pe_op op_fdiv (pv 6) (pv 2)) (fun _ _ => rfl)) (pv 2)) (pe_ix (show IxR _ (rIxL K) from ix_list) (pv 4) (pe_op op_mod (pv 6) (pe_callB (show CallR _ (.builtin "len") (rLen K) from call_len_seq) (by rfl) M_len (by decide +kernel) (pa_cons (pv 4) pa_nil))) (fun _ _ => rfl))))))))
    (pss_one (ps_ret (pv 5)))))), fun rs r h => ?_⟩)
  cases h with
  | mk s o w t L tb hL hm =>
    have hs := tb.hs
    have hS := tb.S
    have hw := tb.hw
    have hl := tb.hl
    have hw12 := tb.wle
    have hpos := pow_pos' (show 0 < s by omega)
    show Run K E _ [.fz (mapD s o w t), .fz (.int (L : Int)), .no, .no, .no, .no, .no] _
    refine run_unp (ρ' := [.fz (mapD s o w t), .fz (.int (L : Int)), .fz (.int s), .fz (.int (w : Int)), .fz (.list (iL t)), .no, .no]) (ev_var rfl) rfl (gs_cons (gs_cons (gs_cons (gs_cons gs_nil)))) ?_
    refine run_asg (r := .fz (.list (iL (imgNos s w t w)))) (EvR.fr (EvR.is (ev_cb (ea_cons (ev_var rfl) ea_nil) rc_list) (by rw [imgNos_zero tb]))) ?_
    have hLs : L < 4096 := by
      have h1 := pow_two_le s hs.1 (w + L - 1)
      omega
    refine run_wk [3] ?_
    refine run_seq (M := fun r => r = [.fz (mapD s o w t), .fz (.int (L : Int)), .fz (.int s), .no, .fz (.list (iL t)), .fz (.list (iL (imgNos s w t (w + L - 1)))), .no])
      (s_forR1 [3, 6] (m := (L : Int) - 1) (ea_cons (ev_i (ev_var rfl) ev_int) ea_nil) (by omega) (fun i r => r = [.fz (mapD s o w t), .fz (.int (L : Int)), .fz (.int s), .no, .fz (.list (iL t)), .fz (.list (iL (imgNos s w t (w + i)))), .no]) rfl ?_ (fun r h => ?_)) ?_
    · rintro i r hi rfl
      have hmono : s ^ (w + i + 1) ≤ s ^ (w + L - 1) := pow_mono (by omega) (by omega)
      have hp := hpos (w + i)
      have hp1 := hpos (w + i + 1)
      have hpe : s ^ (w + i + 1) = s ^ (w + i) * s := Int.pow_succ ..
      have hlen := imgNos_len s w t (w + i)
      have hN : ((imgNos s w t (w + i)).length : Int) * s = s ^ (w + i + 1) := by rw [hlen, hpe]; congr 1; omega
      refine s_asg (r := .fz (.list (iL (imgNos s w t (w + (i + 1)))))) (EvR.fr (ev_lcR1 (m := s ^ (w + i + 1)) (es := iL (imgNos s w t (w + (i + 1)))) (ea_cons ((ev_ic ((ev_cb (ea_cons (ev_var rfl) ea_nil) rc_len).int_is (by rw [iL_len])) (ev_var rfl) (.inr (by omega))).int_is hN) ea_nil) (by omega) (by rw [iL_len, imgNos_len]; rfl) (small100' (by rw [iL_len, imgNos_len]; show (s ^ (w + i + 1)).toNat ≤ 100000; omega)) fun k e hk he => ?_)) rfl
      obtain ⟨c, hc, rfl⟩ := iL_get he
      have hk2 : (k : Int) < s ^ (w + i + 1) := by omega
      rw [imgNos_get (show k < (s ^ (w + (i + 1))).toNat from hk)] at hc
      cases hc
      have es := imgNo_succ tb (n := w + i) (k := k) (by omega) hk2
      show EvI K _ _ (imgNo s w t (w + i + 1) k)
      rw [es]
      have i1 : (k : Int) / s = ((k / s.toNat : Nat) : Int) := by rw [Int.natCast_ediv, hS]
      have i2 : (k : Int) % (t.length : Int) = ((k % t.length : Nat) : Int) := by rw [Int.natCast_emod]
      have hq : k / s.toNat < (s ^ (w + i)).toNat := by
        refine Nat.div_lt_of_lt_mul ?_
        have h2 : ((s.toNat * (s ^ (w + i)).toNat : Nat) : Int) = s ^ (w + i + 1) := by rw [Int.natCast_mul, hS, Int.toNat_of_nonneg (by omega), hpe, Int.mul_comm]
        omega
      have hlp := hpos w
      have hm2 : k % t.length < t.length := Nat.mod_lt _ (by omega)
      exact ev_i (ev_ic (ev_ixL (i := ((k / s.toNat : Nat) : Int)) (ev_var rfl) ((ev_ic (ev_var rfl) (ev_var rfl) (by unfold CDiv; omega)).int_is i1) (atI_of (iL_at (imgNos_get hq)))) (ev_var rfl) (.inr (by omega)))
        (ev_ixL (i := ((k % t.length : Nat) : Int)) (ev_var rfl) ((ev_ic (ev_var rfl) ((ev_cb (ea_cons (ev_var rfl) ea_nil) rc_len).int_is (by rw [iL_len])) (by omega)).int_is i2) (atI_of (iL_at (getI_at hm2))))
    · rw [show w + ((L : Int) - 1).toNat = w + L - 1 by omega] at h
      exact h
    · rintro r rfl
      exact s_ret (ev_var rfl) rfl
abbrev s_composed : Stmt := top 17
theorem sc_composed : FnScope ["first", "second", "size", "offset", "width", "table", "other_size", "other_offset", "other_width", "other_table", "numbers", "result", "number"] ["first", "second"] (defScope s_composed) := ⟨rfl, rfl, rfl, by decide +kernel, rfl, by decide +kernel, by decide +kernel⟩
theorem ok_composed {f : Addr} {fd : FuncData} (F : Fun K "composed" "composed" s_composed f fd) (hm : mg "composed" = some (.ref f)) (hb : Binds K fd ["first", "second"] []) {C_OutOfRange : Addr} (c_offset_fits : Cal P w K mg base CX0 "offset_fits" ["offset"] 1 (SpR K R_offset_fits)) (c_image_numbers : Cal P w K mg base CX0 "image_numbers" ["one", "length"] 1 (SpR K R_image_numbers)) (M_len : mg "len" = none) (tk_MOST_CELLS : Tok) (C_MOST_CELLS : mg "MOST_CELLS" = some (.int 4096 tk_MOST_CELLS)) (G_OutOfRange : mg "OutOfRange" = some (.ref C_OutOfRange)) (T_OutOfRange : ExcT K C_OutOfRange) : Cal P w K mg base (L2.CX P w) "composed" ["first", "second"] 2 (SpR K (R_composed C_OutOfRange)) := by
  refine def_okX (N := ["first", "second", "size", "offset", "width", "table", "other_size", "other_offset", "other_width", "other_table", "numbers", "result", "number"]) (k := 1) F hm hb sc_composed (fun rs r h => by cases h <;> rfl) (fun cdv A outer s H E hr hG => ⟨_, (pss_cons (ps_asg (pv 0) (pg_tup (by rfl) (pgs_cons (pg_name (i := 2) sc_composed.nd rfl (by first | exact Or.inl rfl | exact Or.inr rfl)) (pgs_cons (pg_name (i := 3) sc_composed.nd rfl (by first | exact Or.inl rfl | exact Or.inr rfl)) (pgs_cons (pg_name (i := 4) sc_composed.nd rfl (by first | exact Or.inl rfl | exact Or.inr rfl)) (pgs_cons (pg_name (i := 5) sc_composed.nd rfl (by first | exact Or.inl rfl | exact Or.inr rfl)) pgs_nil))))))
    (pss_cons (ps_asg (pv 1) (pg_tup (by rfl) (pgs_cons (pg_name (i := 6) sc_composed.nd rfl (by first | exact Or.inl rfl | exact Or.inr rfl)) (pgs_cons (pg_name (i := 7) sc_composed.nd rfl (by first | exact Or.inl rfl | exact Or.inr rfl)) (pgs_cons (pg_name (i := 8) sc_composed.nd rfl (by first | exact Or.inl rfl | exact Or.inr rfl)) (pgs_cons (pg_name (i := 9) sc_composed.nd rfl (by first | exact Or.inl rfl | exact Or.inr rfl)) pgs_nil))))))
    (pss_cons (ps_if (pt_cmpR op_ne (pv 2) (pv 6) (nomark _)) (pss_one (ps_raise rfl (takes_of rfl rfl rfl rfl) (pmk_own PySem.F.excBase_ValueError T_OutOfRange.x G_OutOfRange T_OutOfRange.k (raises_own T_OutOfRange.b T_OutOfRange.t) (by exact rfl)))) pss_nil)
    (pss_cons (ps_if (pt_cmpR op_gt (pe_op op_fdiv (pe_op op_mul (pe_callB (show CallR _ (.builtin "len") (rLen K) from call_len_seq) (by rfl) M_len (by decide +kernel) (pa_cons (pv 5) pa_nil)) (pe_callB (show CallR _ (.builtin "len") (rLen K) from call_len_seq) (by rfl) M_len (by decide +kernel) (pa_cons (pv 9) pa_nil))) (pv 2)) (pe_glob (v := .int 4096) (by rfl) C_MOST_CELLS ⟨_, rfl⟩) (nomark _)) (pss_one (ps_raise rfl (takes_of rfl rfl rfl rfl) (pmk_own PySem.F.excBase_ValueError T_OutOfRange.x G_OutOfRange T_OutOfRange.k (raises_own T_OutOfRange.b T_OutOfRange.t) (by exact rfl)))) pss_nil)
    (pss_cons (ps_if (pt_not (pt_val (pe_cal c_offset_fits hr hG (by decide) (by rfl) (pa_cons (pe_op op_add (pv 3) (pv 7)) pa_nil)))) (pss_one (ps_raise rfl (takes_of rfl rfl rfl rfl) (pmk_own PySem.F.excBase_ValueError T_OutOfRange.x G_OutOfRange T_OutOfRange.k (raises_own T_OutOfRange.b T_OutOfRange.t) (by exact rfl)))) pss_nil)
    (pss_cons (ps_set (i := 10) sc_composed.nd rfl (by first | exact Or.inl rfl | exact Or.inr rfl) (pe_cal c_image_numbers hr hG (by decide) (by rfl) (pa_cons (pv 0) (pa_cons (pv 8) pa_nil))))
    (pss_cons (ps_setLc (i := 11) (own := [("number", 12)]) (g := gName 12) (tt := tYes) (by rfl) sc_composed.nd rfl rfl (sw_true rfl rfl rfl (by decide +kernel)) (pi_list (pv 10)) (blkOk_by (N := ["first", "second", "size", "offset", "width", "table", "other_size", "other_offset", "other_width", "other_table", "numbers", "result", "number"]) (sc := defScope s_composed) (by decide +kernel)) (fun _ _ _ _ _ => pg_name (i := 12) sc_composed.nd rfl (by first | exact Or.inl rfl | exact Or.inr rfl)) (fun _ _ _ _ _ => pts_nil) (fun _ _ _ _ _ => (pe_ix (show IxR _ (rIxL K) from ix_list) (pv 9) (pv 12) (fun _ _ => rfl))))
    (pss_one (ps_ret (pe_tup (pa_cons (pv 2) (pa_cons (pe_op op_add (pv 3) (pv 7)) (pa_cons (pe_op op_sub (pe_op op_add (pv 4) (pv 8)) pe_int) (pa_cons (pv 11) pa_nil)))))))))))))), fun rs r h => ?_⟩)
  cases h with
  | mk s s' m n tm tn =>
    obtain ⟨o, w, t⟩ := m
    obtain ⟨o', w', t'⟩ := n
    have tb : Tb s w t := tm
    have tb' : Tb s' w' t' := tn
    have hs := tb.hs
    have hm := tb.hm
    have hm' := tb'.hm
    have hw := tb.hw
    have hw' := tb'.hw
    have no : ¬ cmpOk s s' (o, w, t) (o', w', t') → cmpR C_OutOfRange s s' (o, w, t) (o', w', t') = .exc (.ref C_OutOfRange) := fun h => if_neg h
    have yes : cmpOk s s' (o, w, t) (o', w', t') → cmpR C_OutOfRange s s' (o, w, t) (o', w', t') = .val (.pv (msC s (comp s (o, w, t) (o', w', t')))) := fun h => if_pos h
    have out : ¬ cmpOk s s' (o, w, t) (o', w', t') → (postOf (cmpR C_OutOfRange s s' (o, w, t) (o', w', t'))).xs (.ref C_OutOfRange) := fun h => by rw [no h]; rfl
    show Run K E _ [.fz (mapD s o w t), .fz (mapD s' o' w' t'), .no, .no, .no, .no, .no, .no, .no, .no, .no, .no, .no] _
    refine run_unp (ρ' := [.fz (mapD s o w t), .fz (mapD s' o' w' t'), .fz (.int s), .fz (.int o), .fz (.int (w : Int)), .fz (.list (iL t)), .no, .no, .no, .no, .no, .no, .no]) (ev_var rfl) rfl (gs_cons (gs_cons (gs_cons (gs_cons gs_nil)))) ?_
    refine run_unp (ρ' := [.fz (mapD s o w t), .fz (mapD s' o' w' t'), .fz (.int s), .fz (.int o), .fz (.int (w : Int)), .fz (.list (iL t)), .fz (.int s'), .fz (.int o'), .fz (.int (w' : Int)), .fz (.list (iL t')), .no, .no, .no]) (ev_var rfl) rfl (gs_cons (gs_cons (gs_cons (gs_cons gs_nil)))) ?_
    refine run_when (et_test (ev_neI (ev_var rfl) (ev_var rfl))) (fun hb => ?_) (fun hb => ?_)
    · refine run_gone (s_raise (out fun z => ?_))
      rw [decide_eq_true z.1] at hb; cases hb
    have hss : s = s' := Classical.byContradiction fun z => by rw [decide_eq_false z] at hb; cases hb
    subst hss
    have hsz := comp_size (m := (o, w, t)) (n := (o', w', t')) tm tn
    have hsz : ((t.length : Int) * (t'.length : Int)) / s = s ^ (w + w' - 1) := hsz
    refine run_when (b := decide (4096 < s ^ (w + w' - 1))) (et_is (et_test (ev_b (ev_ic (ev_ic ((ev_cb (ea_cons (ev_var rfl) ea_nil) rc_len).int_is (by rw [iL_len])) ((ev_cb (ea_cons (ev_var rfl) ea_nil) rc_len).int_is (by rw [iL_len])) (.inl (by omega))) (ev_var rfl) (by unfold CDiv; omega)) ev_int)) (by rw [hsz])) (fun hb => ?_) (fun hb => ?_)
    · refine run_gone (s_raise (out fun z => ?_))
      have := of_decide_eq_true hb
      have h2 : s ^ (w + w' - 1) ≤ 4096 := z.2.1
      omega
    have hb := of_decide_eq_false hb
    refine run_when (et_not (et_B (ev_callS (ea_cons (ev_i (ev_var rfl) (ev_var rfl)) ea_nil) (.mk (o + o'))))) (fun hb => ?_) (fun hb => ?_)
    · refine run_gone (s_raise (out fun z => ?_))
      have h1 : -100 ≤ o + o' := z.2.2.1
      have h2 : o + o' ≤ 100 := z.2.2.2
      rw [decide_eq_true h1, decide_eq_true h2] at hb; cases hb
    have ho : -100 ≤ o + o' ∧ o + o' ≤ 100 := by
      have h : (decide (-100 ≤ o + o') && decide (o + o' ≤ 100)) = true := by cases y : (decide (-100 ≤ o + o') && decide (o + o' ≤ 100)); rw [y] at hb; cases hb; rfl
      rw [Bool.and_eq_true, decide_eq_true_eq, decide_eq_true_eq] at h
      exact h
    have hle : s ^ (w + w' - 1) ≤ 4096 := by omega
    rw [yes ⟨rfl, hle, ho⟩]
    refine run_asg (ev_callS (ea_cons (ev_var rfl) (ea_cons (ev_var rfl) ea_nil)) (.mk s o w t w' tb hw' hle)) ?_
    have hil := imgNos_len s w t (w + w' - 1)
    have hcl : (comp s (o, w, t) (o', w', t')).2.2.length = (s ^ (w + w' - 1)).toNat := by show ((List.range (s ^ (w + w' - 1)).toNat).map _).length = _; rw [List.length_map, List.length_range]
    refine run_asg (r := .ow (iL (comp s (o, w, t) (o', w', t')).2.2)) (ev_lcL (ds := iL (imgNos s w t (w + w' - 1))) (ev_var rfl) (by rw [iL_len, iL_len, hil, hcl]) (small100' (by rw [iL_len, hcl]; omega)) fun k d e hd he => ?_) ?_
    · obtain ⟨c, hc, rfl⟩ := iL_get hd
      obtain ⟨c2, hc2, rfl⟩ := iL_get he
      have hk : k < (s ^ (w + w' - 1)).toNat := by rw [← hil]; exact (List.getElem?_eq_some_iff.mp hc).1
      rw [imgNos_get hk] at hc
      cases hc
      have h2 : (comp s (o, w, t) (o', w', t')).2.2[k]? = some (getI t' (imgNo s w t (w + w' - 1) k).toNat) := by
        show ((List.range (s ^ (w + w' - 1)).toNat).map _)[k]? = _
        rw [List.getElem?_map, List.getElem?_range hk]; rfl
      rw [h2] at hc2
      cases hc2
      have bd := imgNo_bound tb (n := w + w' - 1) (k := k)
      rw [show w + w' - 1 + 1 - w = w' by omega, ← tb'.hl] at bd
      exact ev_ixL (ev_var rfl) (ev_var rfl) (atN bd.1 bd.2)
    exact s_retM (em_tup (ds := [.int s, .int (o + o'), .int ((w + w' - 1 : Nat) : Int), .list (iL (comp s (o, w, t) (o', w', t')).2.2)]) (em_cons (EvR.atomP (ev_var rfl) rfl).mv (em_cons (EvR.atomP (ev_i (ev_var rfl) (ev_var rfl)) rfl).mv (em_cons (EvR.atomP (EvR.int_is (ev_i (ev_i (a := (w : Int)) (b := (w' : Int)) (ev_var rfl) (ev_var rfl)) ev_int) (by omega)) rfl).mv (em_cons (em_var rfl (atoms_ints _)) em_nil)))) (by show 4 ≤ sizeLine; decide)) rfl
abbrev s_ignores_first : Stmt := top 15
theorem sc_ignores_first : FnScope ["size", "table"] ["size", "table"] (defScope s_ignores_first) := ⟨rfl, rfl, rfl, by decide +kernel, rfl, by decide +kernel, by decide +kernel⟩
theorem ok_ignores_first {f : Addr} {fd : FuncData} (F : Fun K "ignores_first" "ignores_first" s_ignores_first f fd) (hm : mg "ignores_first" = some (.ref f)) (hb : Binds K fd ["size", "table"] []) (M_len : mg "len" = none) : Cal P w K mg base CX0 "ignores_first" ["size", "table"] 1 (SpR K R_ignores_first) := by
  refine def_ok (N := ["size", "table"]) (k := 0) F hm hb sc_ignores_first (fun rs r h => by cases h <;> rfl) (fun cdv A outer s H E hr hG => ⟨_, (pss_one (ps_ret (pe_cmpR (show OpR _ (compareOp .Eq) (rEqD K) from op_eqD hr.units) (pv 1) (pe_op op_rep (pe_slice (show SlR _ (rSlL K) from sl_list) (pv 1) po_none (po_some (pe_op op_fdiv (pe_callB (show CallR _ (.builtin "len") (rLen K) from call_len_seq) (by rfl) M_len (by decide +kernel) (pa_cons (pv 1) pa_nil)) (pv 0)))) (pv 0)) (nomark _)))), fun rs r h => ?_⟩)
  cases h with
  | mk s w t tb =>
    have hw := tb.hw
    have hs := tb.hs
    have hm := tb.hm
    have hS := tb.S
    obtain ⟨v, rfl⟩ : ∃ v, w = v + 1 := ⟨w - 1, by omega⟩
    have p := tb.part
    have hle : t.length / s.toNat ≤ t.length := Nat.div_le_self ..
    show Run K E _ [.fz (.int s), .fz (.list (iL t))] _
    have e : ((t.length : Int) / s) = ((t.length / s.toNat : Nat) : Int) := by rw [Int.natCast_ediv, hS]
    have sl : EvD K (tSl (rSlL K) (tVar 1) tNoPart (tPart (tOp (rI CDiv fun i j => .int (i / j)) (tCB (rLen K) (tCons (tVar 1) tNil)) (tVar 0)))) [.fz (.int s), .fz (.list (iL t))] (.list (iL (t.take (t.length / s.toNat)))) :=
      EvR.fr (EvR.is (ev_sl (ev_var rfl) eo_none (eo_some ((ev_ic ((ev_cb (ea_cons (ev_var rfl) ea_nil) rc_len).int_is (by rw [iL_len])) (ev_var rfl) (by unfold CDiv; omega)).int_is e))) (by rw [iL_cut, cut_to]))
    have hz : (iL (t.take (t.length / s.toNat))).length * s.toNat ≤ sizeLine := by
      rw [iL_len, List.length_take, Nat.min_eq_left hle, Nat.mul_comm, ← p.2.1]; exact small100' (by omega)
    refine s_ret (EvR.is (ev_eqD (ev_var rfl) (EvR.fr (ev_rep sl (ev_var rfl) (by omega) (by omega) hz)) ((wordTx hs.2 tb.hc).shaped (by decide)) ?_) ?_) rfl
    · rw [iL_flat]
      exact (wordTx hs.2 (rep_in (tb.hc.take _) _)).shaped (by decide)
    · rw [iL_flat, eqv_iL]; rfl
abbrev s_ignores_last : Stmt := top 16
theorem sc_ignores_last : FnScope ["size", "table", "number"] ["size", "table"] (defScope s_ignores_last) := ⟨rfl, rfl, rfl, by decide +kernel, rfl, by decide +kernel, by decide +kernel⟩
theorem ok_ignores_last {f : Addr} {fd : FuncData} (F : Fun K "ignores_last" "ignores_last" s_ignores_last f fd) (hm : mg "ignores_last" = some (.ref f)) (hb : Binds K fd ["size", "table"] []) (M_len : mg "len" = none) (M_range : mg "range" = none) : Cal P w K mg base CX0 "ignores_last" ["size", "table"] 1 (SpR K R_ignores_last) := by
  refine def_ok (N := ["size", "table", "number"]) (k := 0) F hm hb sc_ignores_last (fun rs r h => by cases h <;> rfl) (fun cdv A outer s H E hr hG => ⟨_, (pss_one (ps_ret (pe_cmpR (show OpR _ (compareOp .Eq) (rEqD K) from op_eqD hr.units) (pv 1) (pe_lc (own := [("number", 2)]) (g := gName 2) (tt := tYes) (by rfl) sc_ignores_last.nd (pi_range1 (by rfl) M_range (pa_cons (pe_callB (show CallR _ (.builtin "len") (rLen K) from call_len_seq) (by rfl) M_len (by decide +kernel) (pa_cons (pv 1) pa_nil)) pa_nil)) (blkOk_by (N := ["size", "table", "number"]) (sc := defScope s_ignores_last) (by decide +kernel)) (fun _ _ _ _ _ => pg_name (i := 2) sc_ignores_last.nd rfl (by first | exact Or.inl rfl | exact Or.inr rfl)) (fun _ _ _ _ _ => pts_nil) (fun _ _ _ _ _ => (pe_ix (show IxR _ (rIxL K) from ix_list) (pv 1) (pe_op op_sub (pv 2) (pe_op op_mod (pv 2) (pv 0))) (fun _ _ => rfl)))) (nomark _)))), fun rs r h => ?_⟩)
  cases h with
  | mk s w t tb =>
    have hw := tb.hw
    have hs := tb.hs
    have hm := tb.hm
    have hS := tb.S
    show Run K E _ [.fz (.int s), .fz (.list (iL t)), .no] _
    have hin : InR s ((List.range t.length).map fun (k : Nat) => getI t (k - k % s.toNat)) := inR_rangeMap fun k hk => getI_in tb.hc (by omega)
    refine s_ret (EvR.is (ev_eqD (ev_var rfl) (EvR.fr (ev_lcR1 (m := (t.length : Int)) (es := iL ((List.range t.length).map fun (k : Nat) => getI t (k - k % s.toNat))) (ea_cons ((ev_cb (ea_cons (ev_var rfl) ea_nil) rc_len).int_is (by rw [iL_len])) ea_nil) (by omega) (by rw [rangeMap_len]; omega) (small100' (by rw [rangeMap_len]; omega)) fun k e hk he => ?_)) ((wordTx hs.2 tb.hc).shaped (by decide)) ((wordTx hs.2 hin).shaped (by decide))) (by rw [eqv_iL]; rfl)) rfl
    obtain ⟨hk2, rfl⟩ := rangeMap_get he
    have e : (k : Int) - (k : Int) % s = ((k - k % s.toNat : Nat) : Int) := by
      have h1 : (k : Int) % s = ((k % s.toNat : Nat) : Int) := by rw [Int.natCast_emod, hS]
      have h2 := Nat.mod_le k s.toNat
      omega
    exact ev_ixL (i := ((k - k % s.toNat : Nat) : Int)) (ev_var rfl) ((ev_i (ev_var rfl) (ev_ic (ev_var rfl) (ev_var rfl) (by omega))).int_is e) (atI_of (iL_at (getI_at (by omega))))
abbrev s_narrowed : Stmt := top 14
theorem sc_narrowed : FnScope ["one", "size", "offset", "width", "table"] ["one"] (defScope s_narrowed) := ⟨rfl, rfl, rfl, by decide +kernel, rfl, by decide +kernel, by decide +kernel⟩
theorem ok_narrowed {f : Addr} {fd : FuncData} (F : Fun K "narrowed" "narrowed" s_narrowed f fd) (hm : mg "narrowed" = some (.ref f)) (hb : Binds K fd ["one"] []) (c_ignores_first : Cal P w K mg base CX0 "ignores_first" ["size", "table"] 1 (SpR K R_ignores_first)) (c_ignores_last : Cal P w K mg base CX0 "ignores_last" ["size", "table"] 1 (SpR K R_ignores_last)) (M_len : mg "len" = none) (M_list : mg "list" = none) : Cal P w K mg base CX0 "narrowed" ["one"] 2 (SpR K R_narrowed) := by
  refine def_ok (N := ["one", "size", "offset", "width", "table"]) (k := 1) F hm hb sc_narrowed (fun rs r h => by cases h <;> rfl) (fun cdv A outer s H E hr hG => ⟨_, (pss_cons (ps_asg (pv 0) (pg_tup (by rfl) (pgs_cons (pg_name (i := 1) sc_narrowed.nd rfl (by first | exact Or.inl rfl | exact Or.inr rfl)) (pgs_cons (pg_name (i := 2) sc_narrowed.nd rfl (by first | exact Or.inl rfl | exact Or.inr rfl)) (pgs_cons (pg_name (i := 3) sc_narrowed.nd rfl (by first | exact Or.inl rfl | exact Or.inr rfl)) (pgs_cons (pg_name (i := 4) sc_narrowed.nd rfl (by first | exact Or.inl rfl | exact Or.inr rfl)) pgs_nil))))))
    (pss_cons (ps_set (i := 4) sc_narrowed.nd rfl (by first | exact Or.inl rfl | exact Or.inr rfl) (pe_callTy (show CallR _ (.type "list") (rList K) from call_list_of) (by rfl) M_list (by decide +kernel) (pa_cons (pv 4) pa_nil)))
    (pss_cons (ps_while PassesOwn.never (PW.pt (pw_and (pt_cmpR op_gt (pv 3) pe_int (nomark _)) (pw_and1 (pt_val (pe_cal c_ignores_first hr hG (by decide) (by rfl) (pa_cons (pv 1) (pa_cons (pv 4) pa_nil))))))) (pss_cons (ps_set (i := 4) sc_narrowed.nd rfl (by first | exact Or.inl rfl | exact Or.inr rfl) (pe_slice (show SlR _ (rSlL K) from sl_list) (pv 4) po_none (po_some (pe_op op_fdiv (pe_callB (show CallR _ (.builtin "len") (rLen K) from call_len_seq) (by rfl) M_len (by decide +kernel) (pa_cons (pv 4) pa_nil)) (pv 1)))))
      (pss_cons (ps_aug (i := 3) sc_narrowed.nd rfl (by first | exact Or.inl rfl | exact Or.inr rfl) pe_int ip_sub)
      (pss_one (ps_aug (i := 2) sc_narrowed.nd rfl (by first | exact Or.inl rfl | exact Or.inr rfl) pe_int ip_add)))))
    (pss_cons (ps_while PassesOwn.never (PW.pt (pw_and (pt_cmpR op_gt (pv 3) pe_int (nomark _)) (pw_and1 (pt_val (pe_cal c_ignores_last hr hG (by decide) (by rfl) (pa_cons (pv 1) (pa_cons (pv 4) pa_nil))))))) (pss_cons (ps_set (i := 4) sc_narrowed.nd rfl (by first | exact Or.inl rfl | exact Or.inr rfl) (pe_slStep (pv 4) (po_some (pv 1))))
      (pss_one (ps_aug (i := 3) sc_narrowed.nd rfl (by first | exact Or.inl rfl | exact Or.inr rfl) pe_int ip_sub))))
    (pss_cons (ps_if (PW.pt (pw_and (pt_cmpR op_eq (pv 3) pe_int (nomark _)) (pw_and1 (pt_cmpR (show OpR _ (compareOp .Eq) (rEqD K) from op_eqD hr.units) (pv 4) (pe_op op_rep (pe_lst (pa_cons (pe_ix (show IxR _ (rIxL K) from ix_list) (pv 4) pe_int (fun _ _ => rfl)) pa_nil)) (pv 1)) (nomark _))))) (pss_one (ps_set (i := 2) sc_narrowed.nd rfl (by first | exact Or.inl rfl | exact Or.inr rfl) pe_int)) pss_nil)
    (pss_one (ps_ret (pe_tup (pa_cons (pv 1) (pa_cons (pv 2) (pa_cons (pv 3) (pa_cons (pv 4) pa_nil)))))))))))), fun rs r h => ?_⟩)
  cases h with
  | mk s m tm =>
    obtain ⟨o, w, t⟩ := m
    have tb : Tb s w t := tm
    have hw := tb.hw
    have hw12 := tb.w12
    have hs := tb.hs
    have hS := tb.S
    show Run K E _ [.fz (mapD s o w t), .no, .no, .no, .no] _
    refine run_unp (ρ' := [.fz (mapD s o w t), .fz (.int s), .fz (.int o), .fz (.int (w : Int)), .fz (.list (iL t))]) (ev_var rfl) rfl (gs_cons (gs_cons (gs_cons (gs_cons gs_nil)))) ?_
    refine run_asg (r := .ow (iL t)) (ev_cb (ea_cons (ev_var rfl) ea_nil) rc_list) ?_
    refine run_seq (M := fun r => r = [.fz (mapD s o w t), .fz (.int s), .fz (.int (nar1 s (o, w, t)).1), .fz (.int ((nar1 s (o, w, t)).2.1 : Int)), .ow (iL (nar1 s (o, w, t)).2.2)])
      (s_while (fun k r => ∃ m : MS, k = m.2.1 ∧ Tm s m ∧ (∃ n, itA (st1 s) n (o, w, t) = m ∧ n + m.2.1 = w) ∧ r = [.fz (mapD s o w t), .fz (.int s), .fz (.int m.1), .fz (.int (m.2.1 : Int)), .ow (iL m.2.2)]) w ⟨(o, w, t), rfl, tm, ⟨0, rfl, Nat.zero_add _⟩, rfl⟩ ?_) ?_
    · rintro k r ⟨⟨o1, w1, t1⟩, hk, tm1, ⟨n, hn, hnw⟩, rfl⟩
      have tb1 : Tb s w1 t1 := tm1
      have hk : k = w1 := hk
      subst hk
      have hnw : n + k = w := hnw
      have hk1 := tb1.hw
      have q := step1 tm1
      have es : st1 s (o1, k, t1) = if 1 < k ∧ igF s t1 = true then (o1 + 1, k - 1, t1.take (t1.length / s.toNat)) else (o1, k, t1) := rfl
      refine ⟨decide (1 < k) && igF s t1, et_pass (i := 4) rfl (et_and (et_is (et_test (ev_b (g := fun i j => decide (j < i)) (a := (k : Int)) (b := 1) (ev_var rfl) ev_int)) (decide_eq_decide.mpr (by omega))) fun _ => et_B (ev_callS (ea_cons (ev_var rfl) (ea_cons (ev_var rfl) ea_nil)) (.mk s k t1 tb1))), fun hb => ?_, fun hb => ?_⟩
      · rw [Bool.and_eq_true, decide_eq_true_eq] at hb
        rw [if_pos hb] at es
        have e : ((t1.length : Int) / s) = ((t1.length / s.toNat : Nat) : Int) := by rw [Int.natCast_ediv, hS]
        refine run_asg (r := .ow (iL (t1.take (t1.length / s.toNat)))) (ev_pass (i := 4) rfl (EvR.is (ev_sl (ev_var rfl) eo_none (eo_some ((ev_ic ((ev_cb (ea_cons (ev_var rfl) ea_nil) rc_len).int_is (by rw [iL_len])) (ev_var rfl) (by unfold CDiv; omega)).int_is e))) (by rw [iL_cut, cut_to])) (atoms_ints _)) ?_
        refine run_to (s_aug rfl ev_int rfl) ?_
        refine s_aug rfl ev_int ⟨k - 1, by omega, (o1 + 1, k - 1, t1.take (t1.length / s.toNat)), rfl, ?_, ⟨n + 1, ?_, ?_⟩, ?_⟩
        · rw [← es]; exact q.1.tb
        · rw [itA_snoc, hn, es]
        · show n + 1 + (k - 1) = w; omega
        · show [_, _, _, Sl.fz (.int ((k : Int) - 1)), _] = _
          rw [show (k : Int) - 1 = ((k - 1 : Nat) : Int) by omega]
      · have hneg : ¬ (1 < k ∧ igF s t1 = true) := fun z => by rw [decide_eq_true z.1, z.2] at hb; cases hb
        rw [if_neg hneg] at es
        have e := nar1_of hn es (by omega)
        show _ = _
        rw [e]
    rintro r rfl
    have a := nar1_ok tm
    have ale := a.1.le
    have atb := a.1.tb
    have n2 := fun y k => nar2_of (s := s) (m := (o, w, t)) (y := y) (k := k)
    have n2d : nar s (o, w, t) = if (nar2 s (o, w, t)).2.1 = 1 ∧ (nar2 s (o, w, t)).2.2 = List.replicate s.toNat (getI (nar2 s (o, w, t)).2.2 0) then (0, (nar2 s (o, w, t)).2) else nar2 s (o, w, t) := rfl
    have b := nar2_ok tm
    have btb := b.1.tb
    generalize nar1 s (o, w, t) = m1 at ale atb n2
    obtain ⟨o1, w1, t1⟩ := m1
    have ale : w1 ≤ w := ale
    refine run_seq (M := fun r => r = [.fz (mapD s o w t), .fz (.int s), .fz (.int (nar2 s (o, w, t)).1), .fz (.int ((nar2 s (o, w, t)).2.1 : Int)), .ow (iL (nar2 s (o, w, t)).2.2)])
      (s_while (fun k r => ∃ m : MS, k = m.2.1 ∧ Tm s m ∧ (∃ n, itA (st2 s) n (o1, w1, t1) = m ∧ n + m.2.1 = w1) ∧ r = [.fz (mapD s o w t), .fz (.int s), .fz (.int m.1), .fz (.int (m.2.1 : Int)), .ow (iL m.2.2)]) w1 ⟨(o1, w1, t1), rfl, atb, ⟨0, rfl, Nat.zero_add _⟩, rfl⟩ ?_) ?_
    · rintro k r ⟨⟨o2, w2, t2⟩, hk, tm1, ⟨n, hn, hnw⟩, rfl⟩
      have tb1 : Tb s w2 t2 := tm1
      have hk : k = w2 := hk
      subst hk
      have hnw : n + k = w1 := hnw
      have hk1 := tb1.hw
      have hm1 := tb1.hm
      have q := step2 tm1
      have es : st2 s (o2, k, t2) = if 1 < k ∧ igL s t2 = true then (o2, k - 1, stpI t2 s.toNat) else (o2, k, t2) := rfl
      refine ⟨decide (1 < k) && igL s t2, et_pass (i := 4) rfl (et_and (et_is (et_test (ev_b (g := fun i j => decide (j < i)) (a := (k : Int)) (b := 1) (ev_var rfl) ev_int)) (decide_eq_decide.mpr (by omega))) fun _ => et_B (ev_callS (ea_cons (ev_var rfl) (ea_cons (ev_var rfl) ea_nil)) (.mk s k t2 tb1))), fun hb => ?_, fun hb => ?_⟩
      · rw [Bool.and_eq_true, decide_eq_true_eq] at hb
        rw [if_pos hb] at es
        have p : t2.length = s.toNat * (t2.length / s.toNat) := by
          obtain ⟨v, hv⟩ : ∃ v, k = v + 1 := ⟨k - 1, by omega⟩
          rw [hv] at tb1
          exact tb1.part.2.1
        refine run_asg (r := .ow (iL (stpI t2 s.toNat))) (ev_pass (i := 4) rfl (EvR.is (ev_stp (ev_var rfl) (eo_some (ev_var rfl)) (by omega)) (by rw [iL_stp, stp_even (by omega) p])) (atoms_ints _)) ?_
        refine s_aug rfl ev_int ⟨k - 1, by omega, (o2, k - 1, stpI t2 s.toNat), rfl, ?_, ⟨n + 1, ?_, ?_⟩, ?_⟩
        · rw [← es]; exact q.1.tb
        · rw [itA_snoc, hn, es]
        · show n + 1 + (k - 1) = w1; omega
        · show [_, _, _, Sl.fz (.int ((k : Int) - 1)), _] = _
          rw [show (k : Int) - 1 = ((k - 1 : Nat) : Int) by omega]
      · have hneg : ¬ (1 < k ∧ igL s t2 = true) := fun z => by rw [decide_eq_true z.1, z.2] at hb; cases hb
        rw [if_neg hneg] at es
        have e := n2 _ _ hn es (by omega)
        show _ = _
        rw [e]
    rintro r rfl
    generalize nar2 s (o, w, t) = m2 at n2d btb
    obtain ⟨o2, w2, t2⟩ := m2
    have btb : Tb s w2 t2 := btb
    have hm2 := btb.hm
    have hl2 := btb.hl
    have hp2 := pow_pos' (show 0 < s by omega) w2
    have h0 : 0 < t2.length := by omega
    have hsb : -1000000 ≤ s ∧ s ≤ 100000 := by omega
    have n2d : nar s (o, w, t) = if w2 = 1 ∧ t2 = List.replicate s.toNat (getI t2 0) then (0, w2, t2) else (o2, w2, t2) := n2d
    have rin : InR s (List.replicate s.toNat (getI t2 0)) := fun c hc => by rw [(List.mem_replicate.mp hc).2]; exact getI_in btb.hc (by omega)
    refine run_seq (M := fun r => r = [.fz (mapD s o w t), .fz (.int s), .fz (.int (nar s (o, w, t)).1), .fz (.int ((nar s (o, w, t)).2.1 : Int)), .ow (iL (nar s (o, w, t)).2.2)])
      (s_when (b := decide (w2 = 1) && decide (t2 = List.replicate s.toNat (getI t2 0))) (et_pass (i := 4) rfl (et_and (et_is (et_test (ev_eqI (a := (w2 : Int)) (b := 1) (ev_var rfl) ev_int)) (decide_eq_decide.mpr (by omega))) fun _ => et_test (EvR.is (ev_eqD (ev_var rfl) (EvR.fr (ev_repI (ev_ixL (ev_var rfl) ev_int (at0 h0)) (n := s) (ev_var rfl) hsb.1 hsb.2)) ((wordTx hs.2 btb.hc).shaped (by decide)) ((wordTx hs.2 rin).shaped (by decide))) (by rw [eqv_iL])))) (fun hb => ?_) (fun hb => ?_)) ?_
    · rw [Bool.and_eq_true, decide_eq_true_eq, decide_eq_true_eq] at hb
      rw [if_pos hb] at n2d
      refine s_asg ev_int ?_
      show _ = _
      rw [n2d]; rfl
    · have hneg : ¬ (w2 = 1 ∧ t2 = List.replicate s.toNat (getI t2 0)) := fun z => by rw [decide_eq_true z.1, decide_eq_true z.2] at hb; cases hb
      rw [if_neg hneg] at n2d
      show _ = _
      rw [n2d]
    rintro r rfl
    exact s_retM (em_tup (em_cons (EvR.atomP (ev_var rfl) rfl).mv (em_cons (EvR.atomP (ev_var rfl) rfl).mv (em_cons (EvR.atomP (ev_var rfl) rfl).mv (em_cons (em_var rfl (atoms_ints _)) em_nil)))) (by show 4 ≤ sizeLine; decide)) rfl
abbrev s_reduced : Stmt := top 13
theorem sc_reduced : FnScope ["one", "result"] ["one"] (defScope s_reduced) := ⟨rfl, rfl, rfl, by decide +kernel, rfl, by decide +kernel, by decide +kernel⟩
theorem ok_reduced {f : Addr} {fd : FuncData} (F : Fun K "reduced" "reduced" s_reduced f fd) (hm : mg "reduced" = some (.ref f)) (hb : Binds K fd ["one"] []) {C_OutOfRange : Addr} (c_narrowed : Cal P w K mg base CX0 "narrowed" ["one"] 2 (SpR K R_narrowed)) (c_offset_fits : Cal P w K mg base CX0 "offset_fits" ["offset"] 1 (SpR K R_offset_fits)) (G_OutOfRange : mg "OutOfRange" = some (.ref C_OutOfRange)) (T_OutOfRange : ExcT K C_OutOfRange) : Cal P w K mg base (L2.CX P w) "reduced" ["one"] 3 (SpR K (R_reduced C_OutOfRange)) := by
  refine def_okX (N := ["one", "result"]) (k := 2) F hm hb sc_reduced (fun rs r h => by cases h <;> rfl) (fun cdv A outer s H E hr hG => ⟨_, (pss_cons (ps_set (i := 1) sc_reduced.nd rfl (by first | exact Or.inl rfl | exact Or.inr rfl) (pe_cal c_narrowed hr hG (by decide) (by rfl) (pa_cons (pv 0) pa_nil)))
    (pss_cons (ps_if (pt_not (pt_val (pe_cal c_offset_fits hr hG (by decide) (by rfl) (pa_cons (pe_ix (show IxR _ (rIxT K) from ix_tup) (pv 1) pe_int (fun _ _ => rfl)) pa_nil)))) (pss_one (ps_raise rfl (takes_of rfl rfl rfl rfl) (pmk_own PySem.F.excBase_ValueError T_OutOfRange.x G_OutOfRange T_OutOfRange.k (raises_own T_OutOfRange.b T_OutOfRange.t) (by exact rfl)))) pss_nil)
    (pss_one (ps_ret (pv 1))))), fun rs r h => ?_⟩)
  cases h with
  | mk s m tm =>
    have ok := R_reduced.mk (C := C_OutOfRange) s m tm
    show Run K E _ [.fz (msD s m), .no] _
    have e : ∀ b : Bool, (decide (-100 ≤ (nar s m).1) && decide ((nar s m).1 ≤ 100)) = b → redR C_OutOfRange s m = if b = true then .val (.pv (msD s (nar s m))) else .exc (.ref C_OutOfRange) := fun b h => by unfold redR; rw [h]
    refine run_asg (ev_callS (ea_cons (ev_var rfl) ea_nil) (.mk s m tm)) ?_
    refine run_when (et_passP (i := 1) rfl (et_not (et_B (ev_callS (ea_cons (ev_ixT (ds := [.int s, .int (nar s m).1, .int ((nar s m).2.1 : Int), .list (iL (nar s m).2.2)]) (ev_var rfl) ev_int rfl) ea_nil) (.mk (nar s m).1))))) (fun hb => ?_) (fun hb => ?_)
    · have h := (Bool.not_eq_true' _).mp hb
      rw [e _ h]
      exact run_gone (s_raise rfl)
    · have h : (decide (-100 ≤ (nar s m).1) && decide ((nar s m).1 ≤ 100)) = true := by cases y : (decide (-100 ≤ (nar s m).1) && decide ((nar s m).1 ≤ 100)); rw [y] at hb; cases hb; rfl
      rw [e _ h]
      exact s_retP rfl rfl
abbrev s_size_fits : Stmt := top 8
theorem sc_size_fits : FnScope ["size"] ["size"] (defScope s_size_fits) := ⟨rfl, rfl, rfl, by decide +kernel, rfl, by decide +kernel, by decide +kernel⟩
theorem ok_size_fits {f : Addr} {fd : FuncData} (F : Fun K "size_fits" "size_fits" s_size_fits f fd) (hm : mg "size_fits" = some (.ref f)) (hb : Binds K fd ["size"] []) (tk_LEAST_SIZE : Tok) (C_LEAST_SIZE : mg "LEAST_SIZE" = some (.int 2 tk_LEAST_SIZE)) (tk_MOST_SIZE : Tok) (C_MOST_SIZE : mg "MOST_SIZE" = some (.int 4 tk_MOST_SIZE)) : Cal P w K mg base CX0 "size_fits" ["size"] 1 (SpR K R_size_fits) := by
  refine def_ok (N := ["size"]) (k := 0) F hm hb sc_size_fits (fun rs r h => by cases h <;> rfl) (fun cdv A outer s H E hr hG => ⟨_, (pss_one (ps_ret (pe_chain op_le op_le (pe_glob (v := .int 2) (by rfl) C_LEAST_SIZE ⟨_, rfl⟩) (pv 0) (pe_glob (v := .int 4) (by rfl) C_MOST_SIZE ⟨_, rfl⟩)))), fun rs r h => ?_⟩)
  cases h with
  | mk s =>
    show Run K E _ [.fz (.int s)] _
    exact s_ret (ev_chain ev_int (ev_var rfl) ev_int) rfl
abbrev s_shift_map : Stmt := top 20
theorem sc_shift_map : FnScope ["size", "places"] ["size", "places"] (defScope s_shift_map) := ⟨rfl, rfl, rfl, by decide +kernel, rfl, by decide +kernel, by decide +kernel⟩
theorem ok_shift_map {f : Addr} {fd : FuncData} (F : Fun K "shift_map" "shift_map" s_shift_map f fd) (hm : mg "shift_map" = some (.ref f)) (hb : Binds K fd ["size", "places"] []) {C_OutOfRange : Addr} (c_size_fits : Cal P w K mg base CX0 "size_fits" ["size"] 1 (SpR K R_size_fits)) (c_offset_fits : Cal P w K mg base CX0 "offset_fits" ["offset"] 1 (SpR K R_offset_fits)) (M_list : mg "list" = none) (M_range : mg "range" = none) (G_OutOfRange : mg "OutOfRange" = some (.ref C_OutOfRange)) (T_OutOfRange : ExcT K C_OutOfRange) : Cal P w K mg base (L2.CX P w) "shift_map" ["size", "places"] 2 (SpR K (R_shift_map C_OutOfRange)) := by
  refine def_okX (N := ["size", "places"]) (k := 1) F hm hb sc_shift_map (fun rs r h => by cases h <;> rfl) (fun cdv A outer s H E hr hG => ⟨_, (pss_cons (ps_if (pt_not (pt_val (pe_cal c_size_fits hr hG (by decide) (by rfl) (pa_cons (pv 0) pa_nil)))) (pss_one (ps_raise rfl (takes_of rfl rfl rfl rfl) (pmk_own PySem.F.excBase_ValueError T_OutOfRange.x G_OutOfRange T_OutOfRange.k (raises_own T_OutOfRange.b T_OutOfRange.t) (by exact rfl)))) pss_nil)
    (pss_cons (ps_if (pt_not (pt_val (pe_cal c_offset_fits hr hG (by decide) (by rfl) (pa_cons (pv 1) pa_nil)))) (pss_one (ps_raise rfl (takes_of rfl rfl rfl rfl) (pmk_own PySem.F.excBase_ValueError T_OutOfRange.x G_OutOfRange T_OutOfRange.k (raises_own T_OutOfRange.b T_OutOfRange.t) (by exact rfl)))) pss_nil)
    (pss_one (ps_ret (pe_tup (pa_cons (pv 0) (pa_cons (pv 1) (pa_cons pe_int (pa_cons (pe_listRg rfl (by rfl) M_list (prg_1 (by rfl) M_range (pv 0))) pa_nil))))))))), fun rs r h => ?_⟩)
  cases h with
  | mk s p =>
    show Run K E _ [.fz (.int s), .fz (.int p)] _
    have no : ¬ ((2 ≤ s ∧ s ≤ 4) ∧ (-100 ≤ p ∧ p ≤ 100)) → (postOf (shR C_OutOfRange s p)).xs (.ref C_OutOfRange) := fun h => by unfold shR; rw [if_neg h]; rfl
    refine run_when (et_not (et_B (ev_callS (ea_cons (ev_var rfl) ea_nil) (.mk s)))) (fun hb => ?_) (fun hb => ?_)
    · refine run_gone (s_raise (no fun z => ?_))
      rw [decide_eq_true z.1.1, decide_eq_true z.1.2] at hb; cases hb
    have h1 : (decide (2 ≤ s) && decide (s ≤ 4)) = true := by cases y : (decide (2 ≤ s) && decide (s ≤ 4)); rw [y] at hb; cases hb; rfl
    refine run_when (et_not (et_B (ev_callS (ea_cons (ev_var rfl) ea_nil) (.mk p)))) (fun hb => ?_) (fun hb => ?_)
    · refine run_gone (s_raise (no fun z => ?_))
      rw [decide_eq_true z.2.1, decide_eq_true z.2.2] at hb; cases hb
    have h2 : (decide (-100 ≤ p) && decide (p ≤ 100)) = true := by cases y : (decide (-100 ≤ p) && decide (p ≤ 100)); rw [y] at hb; cases hb; rfl
    rw [Bool.and_eq_true, decide_eq_true_eq, decide_eq_true_eq] at h1 h2
    have yes : shR C_OutOfRange s p = .val (.pv (msC s (shM s p))) := by unfold shR; rw [if_pos ⟨h1, h2⟩]
    rw [yes]
    exact s_retM (em_tup (ds := [.int s, .int p, .int ((1 : Nat) : Int), .list (iL (idT s))]) (em_cons (EvR.atomP (ev_var rfl) rfl).mv (em_cons (EvR.atomP (ev_var rfl) rfl).mv (em_cons (EvR.atomP (d := .int 1) ev_int rfl).mv (em_cons (EvR.toP (ev_listRg (n := s.toNat) ((ev_var rfl).int_is (by omega)) (by omega)) (atoms_ints _)).mv em_nil)))) (by show 4 ≤ sizeLine; decide)) rfl
abbrev s_power : Stmt := top 19
theorem sc_power : FnScope ["one", "exponent", "result", "mark", "marked", "step"] ["one", "exponent"] (defScope s_power) := ⟨rfl, rfl, rfl, by decide +kernel, rfl, by decide +kernel, by decide +kernel⟩
theorem ok_power {f : Addr} {fd : FuncData} (F : Fun K "power" "power" s_power f fd) (hm : mg "power" = some (.ref f)) (hb : Binds K fd ["one", "exponent"] []) {C_OutOfRange : Addr} (c_shift_map : Cal P w K mg base (L2.CX P w) "shift_map" ["size", "places"] 2 (SpR K (R_shift_map C_OutOfRange))) (c_reduced : Cal P w K mg base (L2.CX P w) "reduced" ["one"] 3 (SpR K (R_reduced C_OutOfRange))) (c_composed : Cal P w K mg base (L2.CX P w) "composed" ["first", "second"] 2 (SpR K (R_composed C_OutOfRange))) (G_OutOfRange : mg "OutOfRange" = some (.ref C_OutOfRange)) (T_OutOfRange : ExcT K C_OutOfRange) : Cal P w K mg base (L2.CX P w) "power" ["one", "exponent"] 4 (SpR K (R_power C_OutOfRange)) := by
  refine def_okX (N := ["one", "exponent", "result", "mark", "marked", "step"]) (k := 3) F hm hb sc_power (fun rs r h => by cases h <;> rfl) (fun cdv A outer s H E hr hG => ⟨_, (pss_cons (ps_if (pt_cmpR op_lt (pv 1) pe_int (nomark _)) (pss_one (ps_raise rfl (takes_of rfl rfl rfl rfl) (pmk_own PySem.F.excBase_ValueError T_OutOfRange.x G_OutOfRange T_OutOfRange.k (raises_own T_OutOfRange.b T_OutOfRange.t) (by exact rfl)))) pss_nil)
    (pss_cons (ps_set (i := 2) sc_power.nd rfl (by first | exact Or.inl rfl | exact Or.inr rfl) (pe_calX c_shift_map hr hG (by decide) (by rfl) (takes_of rfl rfl rfl rfl) (pa_cons (pe_ix (show IxR _ (rIxT K) from ix_tup) (pv 0) pe_int (fun _ _ => rfl)) (pa_cons pe_int pa_nil))))
    (pss_cons (ps_set (i := 3) sc_power.nd rfl (by first | exact Or.inl rfl | exact Or.inr rfl) (pv 2))
    (pss_cons (ps_set (i := 4) sc_power.nd rfl (by first | exact Or.inl rfl | exact Or.inr rfl) pe_int)
    (pss_cons (ps_set (i := 5) sc_power.nd rfl (by first | exact Or.inl rfl | exact Or.inr rfl) pe_int)
    (pss_cons (ps_while (passes_of rfl) (pt_cmpR op_lt (pv 5) (pv 1) (nomark _)) (pss_cons (ps_set (i := 2) sc_power.nd rfl (by first | exact Or.inl rfl | exact Or.inr rfl) (pe_calX c_reduced hr hG (by decide) (by rfl) (takes_of rfl rfl rfl rfl) (pa_cons (pe_calX c_composed hr hG (by decide) (by rfl) (takes_of rfl rfl rfl rfl) (pa_cons (pv 2) (pa_cons (pv 0) pa_nil))) pa_nil)))
      (pss_cons (ps_aug (i := 5) sc_power.nd rfl (by first | exact Or.inl rfl | exact Or.inr rfl) pe_int ip_add)
      (pss_one (ps_if (pt_cmpR (show OpR _ (compareOp .Eq) (rEqD K) from op_eqD hr.units) (pv 2) (pv 3) (nomark _)) (pss_one (ps_set (i := 5) sc_power.nd rfl (by first | exact Or.inl rfl | exact Or.inr rfl) (pe_op op_sub (pv 1) (pe_op op_mod (pe_op op_sub (pv 1) (pv 5)) (pe_op op_sub (pv 5) (pv 4)))))) (pss_one (ps_if (pt_cmpR op_ge (pv 5) (pe_op op_mul pe_int (pv 4)) (nomark _)) (pss_cons (ps_set (i := 3) sc_power.nd rfl (by first | exact Or.inl rfl | exact Or.inr rfl) (pv 2))
          (pss_one (ps_set (i := 4) sc_power.nd rfl (by first | exact Or.inl rfl | exact Or.inr rfl) (pv 5)))) pss_nil)))))))
    (pss_one (ps_ret (pv 2))))))))), fun rs r h => ?_⟩)
  cases h with
  | mk s m e tm =>
    have hs : 2 ≤ s ∧ s ≤ 4 := Tb.hs tm
    show Run K E _ [.fz (msC s m), .fz (.int e), .no, .no, .no, .no] _
    refine run_when (et_test (ev_b (ev_var rfl) ev_int)) (fun hb => ?_) (fun hb => ?_)
    · refine run_gone (s_raise ?_)
      unfold pwR
      rw [if_pos (of_decide_eq_true hb)]; rfl
    have hb := of_decide_eq_false hb
    obtain ⟨n, rfl⟩ : ∃ n : Nat, e = (n : Int) := ⟨e.toNat, by omega⟩
    have no : pow s m n = none → (postOf (pwR C_OutOfRange s m (n : Int))).xs (.ref C_OutOfRange) := fun h => by
      unfold pwR
      rw [if_neg hb, Int.toNat_natCast, h]; rfl
    have yes : ∀ y, pow s m n = some y → pwR C_OutOfRange s m (n : Int) = .val (.pv (msC s y)) := fun y h => by
      unfold pwR
      rw [if_neg hb, Int.toNat_natCast, h]
    refine run_asg (r := .pv (msC s (shM s 0))) (ev_callS (ea_cons (ev_ixT (ds := [.int s, .int m.1, .int (m.2.1 : Int), .list (iL m.2.2)]) (ev_var rfl) ev_int rfl) (ea_cons ev_int ea_nil)) (by
      have e := R_shift_map.mk (C := C_OutOfRange) s 0
      unfold shR at e
      rw [if_pos ⟨hs, by decide⟩] at e
      exact e)) ?_
    refine run_seq (M := fun r => ∃ v, r = [.fz (msC s m), .fz (.int (n : Int)), .ab (alP K v (msC s (shM s 0))), .is v, .no, .no]) (s_setAl rfl (by decide) fun v => ⟨v, rfl⟩) ?_
    rintro r ⟨v, rfl⟩
    refine run_asg ev_int (run_asg ev_int ?_)
    refine run_seq (M := fun r => ∃ y x2 x3 x4 x5, pow s m n = some y ∧ r = [.fz (msC s m), .fz (.int (n : Int)), x2, x3, x4, x5] ∧ (x2 = .pv (msC s y) ∨ ∃ v, x2 = .ab (alP K v (msC s y))))
      (s_while (fun k ρ => ∃ (r mk : MS) (marked step : Nat), PIv (pst s m) n (shM s 0) r mk marked step ∧ Tm s r ∧ Tm s mk ∧ k = n - step ∧
        ((r = mk ∧ ∃ v, ρ = [.fz (msC s m), .fz (.int (n : Int)), .ab (alP K v (msC s r)), .is v, .fz (.int (marked : Int)), .fz (.int (step : Int))]) ∨
          ρ = [.fz (msC s m), .fz (.int (n : Int)), .pv (msC s r), .pv (msC s mk), .fz (.int (marked : Int)), .fz (.int (step : Int))])) n ?_ ?_) ?_
    · exact ⟨shM s 0, shM s 0, 0, 0, .start n _, shM_tb hs 0, shM_tb hs 0, rfl, .inl ⟨rfl, v, rfl⟩⟩
    · rintro k ρ ⟨r, mk, marked, step, I, tr, tk, rfl, hρ⟩
      refine ⟨decide ((step : Int) < (n : Int)), ?_, fun hb => ?_, fun hb => ?_⟩
      · rcases hρ with ⟨_, v, rfl⟩ | rfl
        · exact et_test (ev_b (ev_var rfl) (ev_var rfl))
        · exact et_test (ev_b (ev_var rfl) (ev_var rfl))
      · have hlt : step < n := by have := of_decide_eq_true hb; omega
        have hms := I.ms
        by_cases ok : stOk s m r
        · have hy := pst_yes ok
          have ty := pst_tb tm tr hy
          generalize hyy : nar s (comp s r m) = y at hy ty
          have hev : ∀ ρ : List Sl, ρ[0]? = some (.fz (msC s m)) → ρ[2]? = some (.fz (msC s r)) → EvR K (tCallS (SpR K (R_reduced C_OutOfRange)) (fun _ => E) (tCons (tCallS (SpR K (R_composed C_OutOfRange)) (fun _ => E) (tCons (tVar 2) (tCons (tVar 0) tNil))) tNil)) ρ (.pv (msC s y)) := fun ρ h0 h2 =>
            (ev_callS (ea_cons (EvR.frP (ev_callS (s := .pv (msC s (comp s r m))) (ea_cons (ev_var h2) (ea_cons (ev_var h0) ea_nil)) (by
              have e := R_composed.mk (C := C_OutOfRange) s s r m tr tm
              unfold cmpR at e
              rw [if_pos ok.1] at e
              exact e))) ea_nil) (R_reduced.val (C := C_OutOfRange) (comp_Tb tr tm ok.1.2.1) ok.2)).is (by rw [hyy]; rfl)
          refine run_seq (M := fun ρ' => ρ' = [.fz (msC s m), .fz (.int (n : Int)), .pv (msC s y), .pv (msC s mk), .fz (.int (marked : Int)), .fz (.int (step : Int))]) ?_ ?_
          · rcases hρ with ⟨rfl, v, rfl⟩ | rfl
            · exact s_mvAl (i := 2) (j := 3) rfl rfl (by decide) (hev _ rfl rfl) rfl
            · exact s_asg (ev_passP (i := 2) rfl (hev _ rfl rfl) rfl) rfl
          rintro _ rfl
          refine run_to (s_aug rfl ev_int rfl) ?_
          refine s_if (b := decide (y = mk)) (et_passP (i := 2) rfl (et_passP (i := 3) rfl (et_is (et_test (ev_eqD (ev_var rfl) (ev_var rfl) (msTx' ty) (msTx' tk))) ?_))) (fun hb => ?_) (fun hb => ?_)
          · show PyData.eqv (mapD s y.1 y.2.1 y.2.2) (mapD s mk.1 mk.2.1 mk.2.2) = _
            rw [eqv_mapD]
            exact decide_eq_decide.mpr ⟨fun z => z.2, fun z => ⟨rfl, z⟩⟩
          · have hb := of_decide_eq_true hb
            subst hb
            have J := I.jump hlt hy
            refine s_asg (r := .fz (.int ((n - (n - (step + 1)) % (step + 1 - marked) : Nat) : Int))) (EvR.int_is (ev_i (ev_var rfl) (ev_ic (ev_i (ev_var rfl) (ev_var rfl)) (ev_i (ev_var rfl) (ev_var rfl)) (show 0 < ((step : Int) + 1 - (marked : Int)) by omega))) ?_) ⟨_, ?_, y, y, marked, _, J.1, ty, ty, rfl, .inr rfl⟩
            · have hle := J.2
              have e1 : ((n : Int) - ((step : Int) + 1)) = ((n - (step + 1) : Nat) : Int) := by omega
              have e2 : ((step : Int) + 1 - (marked : Int)) = ((step + 1 - marked : Nat) : Int) := by omega
              rw [e1, e2, ← Int.natCast_emod]
              omega
            · have hle := J.2
              generalize (n - (step + 1)) % (step + 1 - marked) = q at hle
              omega
          · have hb := of_decide_eq_false hb
            refine s_when (b := decide (2 * (marked : Int) ≤ (step : Int) + 1)) (et_test (ev_b (ev_var rfl) (ev_ic ev_int (ev_var rfl) (.inl (by decide))))) (fun hc => ?_) (fun hc => ?_)
            · refine run_seq (M := fun ρ' => ∃ v, ρ' = [.fz (msC s m), .fz (.int (n : Int)), .ab (alP K v (msC s y)), .is v, .fz (.int (marked : Int)), .fz (.int ((step : Int) + 1))]) (s_setAl (i := 2) (j := 3) rfl (by decide) fun v => ⟨v, rfl⟩) ?_
              rintro _ ⟨v, rfl⟩
              exact s_asg (ev_var rfl) ⟨n - (step + 1), by omega, y, y, step + 1, step + 1, I.mark hlt hy, ty, ty, rfl, .inl ⟨rfl, v, rfl⟩⟩
            · exact ⟨n - (step + 1), by omega, y, mk, marked, step + 1, I.on hlt hy hb, ty, tk, rfl, .inr rfl⟩
        · have hn := I.no hlt (pst_no ok)
          have ex : ∀ ρ : List Sl, ρ[0]? = some (.fz (msC s m)) → ρ[2]? = some (.fz (msC s r)) → ExX K E (tCallS (SpR K (R_reduced C_OutOfRange)) (fun _ => E) (tCons (tCallS (SpR K (R_composed C_OutOfRange)) (fun _ => E) (tCons (tVar 2) (tCons (tVar 0) tNil))) tNil)) ρ (.ref C_OutOfRange) := fun ρ h0 h2 => by
            by_cases hc : cmpOk s s r m
            · refine ex_call (ea_cons (EvR.frP (ev_callS (s := .pv (msC s (comp s r m))) (ea_cons (ev_var h2) (ea_cons (ev_var h0) ea_nil)) (by
                have e := R_composed.mk (C := C_OutOfRange) s s r m tr tm
                unfold cmpR at e
                rw [if_pos hc] at e
                exact e))) ea_nil) (R_reduced.exc (C := C_OutOfRange) (comp_Tb tr tm hc.2.1) fun z => ok ⟨hc, z⟩)
            · refine ex_arg (ex_call (ea_cons (ev_var h2) (ea_cons (ev_var h0) ea_nil)) (?_ : R_composed C_OutOfRange _ _))
              have e := R_composed.mk (C := C_OutOfRange) s s r m tr tm
              unfold cmpR at e
              rw [if_neg hc] at e
              exact e
          refine run_gone ?_
          rcases hρ with ⟨_, v, rfl⟩ | rfl
          · exact s_asgX (ex_al (i := 2) rfl (ex _ rfl rfl)) (no hn)
          · exact s_asgX (ex_passP (i := 2) rfl (ex _ rfl rfl)) (no hn)
      · have hle : ¬ (step : Int) < (n : Int) := of_decide_eq_false hb
        have hse := I.se
        have hst : step = n := by omega
        have fin := I.fin
        rw [hst, Nat.sub_self] at fin
        rcases hρ with ⟨_, v, rfl⟩ | rfl
        · exact ⟨r, _, _, _, _, fin.symm, rfl, .inr ⟨v, rfl⟩⟩
        · exact ⟨r, _, _, _, _, fin.symm, rfl, .inl rfl⟩
    rintro _ ⟨y, x2, x3, x4, x5, hy, rfl, hx⟩
    rw [yes y hy]
    rcases hx with rfl | ⟨v, rfl⟩
    · exact s_retP rfl rfl
    · exact run_unAl (i := 2) rfl (s_retP rfl rfl)
abbrev s_apply_word : Stmt := top 12
theorem sc_apply_word : FnScope ["one", "word", "size", "_", "width", "table", "image", "number", "place", "cell"] ["one", "word"] (defScope s_apply_word) := ⟨rfl, rfl, rfl, by decide +kernel, rfl, by decide +kernel, by decide +kernel⟩
theorem ok_apply_word {f : Addr} {fd : FuncData} (F : Fun K "apply_word" "apply_word" s_apply_word f fd) (hm : mg "apply_word" = some (.ref f)) (hb : Binds K fd ["one", "word"] []) (M_enumerate : mg "enumerate" = none) (M_len : mg "len" = none) : Cal P w K mg base CX0 "apply_word" ["one", "word"] 1 (SpR K R_apply_word) := by
  refine def_ok (N := ["one", "word", "size", "_", "width", "table", "image", "number", "place", "cell"]) (k := 0) F hm hb sc_apply_word (fun rs r h => by cases h <;> rfl) (fun cdv A outer s H E hr hG => ⟨_, (pss_cons (ps_asg (pv 0) (pg_tup (by rfl) (pgs_cons (pg_name (i := 2) sc_apply_word.nd rfl (by first | exact Or.inl rfl | exact Or.inr rfl)) (pgs_cons (pg_name (i := 3) sc_apply_word.nd rfl (by first | exact Or.inl rfl | exact Or.inr rfl)) (pgs_cons (pg_name (i := 4) sc_apply_word.nd rfl (by first | exact Or.inl rfl | exact Or.inr rfl)) (pgs_cons (pg_name (i := 5) sc_apply_word.nd rfl (by first | exact Or.inl rfl | exact Or.inr rfl)) pgs_nil))))))
    (pss_cons (ps_set (i := 6) sc_apply_word.nd rfl (by first | exact Or.inl rfl | exact Or.inr rfl) (pe_lst pa_nil))
    (pss_cons (ps_set (i := 7) sc_apply_word.nd rfl (by first | exact Or.inl rfl | exact Or.inr rfl) pe_int)
    (pss_cons (ps_for PassesOwn.never rfl (pi_enum (by rfl) M_enumerate (pa_cons (pv 1) pa_nil)) (pg_tup (by rfl) (pgs_cons (pg_name (i := 8) sc_apply_word.nd rfl (by first | exact Or.inl rfl | exact Or.inr rfl)) (pgs_cons (pg_name (i := 9) sc_apply_word.nd rfl (by first | exact Or.inl rfl | exact Or.inr rfl)) pgs_nil))) (pss_cons (ps_set (i := 7) sc_apply_word.nd rfl (by first | exact Or.inl rfl | exact Or.inr rfl) (pe_op op_mod (pe_op op_add (pe_op op_mul (pv 7) (pv 2)) (pv 9)) (pe_callB (show CallR _ (.builtin "len") (rLen K) from call_len_seq) (by rfl) M_len (by decide +kernel) (pa_cons (pv 5) pa_nil))))
      (pss_one (ps_if (pt_cmpR op_ge (pv 8) (pe_op op_sub (pv 4) pe_int) (nomark _)) (pss_one (ps_expr (pe_bm PySem.F.plainAttrs_list PySem.F.slot_list_append PySem.F.type_list_append mt_append (pv 6) (pa_cons (pe_ix (show IxR _ (rIxL K) from ix_list) (pv 5) (pv 7) (fun _ _ => rfl)) pa_nil)))) pss_nil))))
    (pss_one (ps_ret (pv 6))))))), fun rs r h => ?_⟩)
  cases h with
  | mk s o w t word h hw hz =>
    have hs := h.hs
    have hw1 := h.hw
    have hw' := h.wle
    have hp := pow_pos' (s := s) (by omega) w
    show Run K E _ [.fz (mapD s o w t), .fz (.list (iL word)), .no, .no, .no, .no, .no, .no, .no, .no] _
    refine run_unp (ρ' := [.fz (mapD s o w t), .fz (.list (iL word)), .fz (.int s), .fz (.int o), .fz (.int (w : Int)), .fz (.list (iL t)), .no, .no, .no, .no]) (ev_var rfl) rfl (gs_cons (gs_cons (gs_cons (gs_cons gs_nil)))) ?_
    refine run_asg (ev_lst (ds := []) ea_nil (Nat.zero_le _)) ?_
    refine run_asg ev_int ?_
    refine run_seq (M := fun r => r = [.fz (mapD s o w t), .fz (.list (iL word)), .fz (.int s), .fz (.int o), .fz (.int (w : Int)), .fz (.list (iL t)), .ow (iL (lawApply s w t word)), .fz (.int (lawIndex word s % s ^ w)), .no, .no])
      (s_forE [8, 9] (ea_cons (ev_var rfl) ea_nil) (fun i r => r = [.fz (mapD s o w t), .fz (.list (iL word)), .fz (.int s), .fz (.int o), .fz (.int (w : Int)), .fz (.list (iL t)), .ow (iL (lawApply s w t (word.take i))), .fz (.int (lawIndex (word.take i) s % s ^ w)), .no, .no]) ?_ ?_ (fun r h => ?_)) ?_
    · have e1 : lawApply s w t (word.take 0) = [] := by
        unfold lawApply
        rw [List.take_zero, show ([] : List Int).length + 1 - w = 0 by simp; omega]; rfl
      have e2 : lawIndex (word.take 0) s % s ^ w = 0 := Int.zero_emod _
      show _ = _
      rw [e1, e2]; rfl
    · rintro i d r hi rfl
      obtain ⟨c, hc, rfl⟩ := iL_get hi
      have hlt : i < word.length := (List.getElem?_eq_some_iff.mp hc).1
      have tk := take_succ_some hc
      have num : lawIndex (word.take (i + 1)) s % s ^ w = (lawIndex (word.take i) s % s ^ w * s + c) % s ^ w := by rw [tk, idx_snoc, idx_step]
      have hl : ((iL t).length : Int) = s ^ w := by rw [iL_len]; exact h.hl
      refine run_asg (r := .fz (.int (lawIndex (word.take (i + 1)) s % s ^ w))) ((ev_ic (ev_i (ev_ic (ev_var rfl) (ev_var rfl) (.inr (by omega))) (ev_var rfl)) ((ev_cb (ea_cons (ev_var rfl) ea_nil) rc_len).int_is hl) (by omega)).int_is num.symm) ?_
      refine s_when (et_test (ev_b (ev_var rfl) (ev_i (ev_var rfl) ev_int))) (fun hb => ?_) (fun hb => ?_)
      · have hb' : (w : Int) - 1 ≤ (i : Int) := of_decide_eq_true hb
        have win := idx_window (s := s) (by omega) hw (i := i + 1) (w := w) (by omega) (by omega)
        obtain ⟨j, h1, h2⟩ := h.at ((hw.drop (i + 1 - w)).take w) (by rw [List.length_take, List.length_drop]; omega)
        refine s_app (d := .int (t.getD (lawIndex ((word.drop (i + 1 - w)).take w) s).toNat 0)) rfl (ev_ixL (i := (j : Int)) (ev_var rfl) ((ev_var rfl).int_is ?_) (atI_of (iL_at h2))) (small100 ?_) ?_
        · rw [win, h1]
        · rw [iL_len, lawApply_len, List.length_take]; omega
        · have e : lawApply s w t (word.take (i + 1)) = lawApply s w t (word.take i) ++ [t.getD (lawIndex ((word.drop (i + 1 - w)).take w) s).toNat 0] := by
            refine List.ext_getElem? fun k => ?_
            have la : (lawApply s w t (word.take i)).length = i + 1 - w := by rw [lawApply_len, List.length_take, Nat.min_eq_left (by omega)]
            by_cases hk : k < i + 1 - w
            · rw [List.getElem?_append_left (by rw [la]; exact hk), lawApply_at (by rw [List.length_take]; omega), lawApply_at (by rw [List.length_take]; omega)]
              have e3 : ((word.take (i + 1)).drop k).take w = ((word.take i).drop k).take w := by
                rw [List.drop_take, List.drop_take, List.take_take, List.take_take, Nat.min_eq_left (by omega), Nat.min_eq_left (by omega)]
              rw [e3]
            · by_cases hk2 : k = i + 1 - w
              · subst hk2
                rw [List.getElem?_append_right (by rw [la]; exact Nat.le_refl _), la, Nat.sub_self, lawApply_at (by rw [List.length_take]; omega)]
                have e3 : ((word.take (i + 1)).drop (i + 1 - w)).take w = (word.drop (i + 1 - w)).take w := by
                  rw [List.drop_take, List.take_take, Nat.min_eq_left (by omega)]
                rw [e3]; rfl
              · rw [List.getElem?_eq_none (by rw [lawApply_len, List.length_take]; omega), List.getElem?_eq_none (by rw [List.length_append, la]; simp; omega)]
          show _ = _
          rw [e, iL_app]; rfl
      · have hb' : ¬ (w : Int) - 1 ≤ (i : Int) := of_decide_eq_false hb
        have e : lawApply s w t (word.take (i + 1)) = lawApply s w t (word.take i) := by
          unfold lawApply
          rw [show (word.take (i + 1)).length + 1 - w = 0 by rw [List.length_take]; omega, show (word.take i).length + 1 - w = 0 by rw [List.length_take]; omega]; rfl
        show _ = _
        rw [e]; rfl
    · rw [iL_len, List.take_length] at h
      exact h
    · rintro r rfl
      exact s_retO rfl rfl
abbrev s_round_cell : Stmt := top 23
theorem sc_round_cell : FnScope ["row", "place"] ["row", "place"] (defScope s_round_cell) := ⟨rfl, rfl, rfl, by decide +kernel, rfl, by decide +kernel, by decide +kernel⟩
theorem ok_round_cell {f : Addr} {fd : FuncData} (F : Fun K "round_cell" "round_cell" s_round_cell f fd) (hm : mg "round_cell" = some (.ref f)) (hb : Binds K fd ["row", "place"] []) (M_len : mg "len" = none) : Cal P w K mg base CX0 "round_cell" ["row", "place"] 1 (SpR K R_round_cell) := by
  refine def_ok (N := ["row", "place"]) (k := 0) F hm hb sc_round_cell (fun rs r h => by cases h <;> rfl) (fun cdv A outer s H E hr hG => ⟨_, (pss_one (ps_ret (pe_ix (show IxR _ (rIxL K) from ix_list) (pv 0) (pe_op op_mod (pv 1) (pe_callB (show CallR _ (.builtin "len") (rLen K) from call_len_seq) (by rfl) M_len (by decide +kernel) (pa_cons (pv 0) pa_nil))) (fun _ _ => rfl)))), fun rs r h => ?_⟩)
  cases h with
  | mk row place h =>
    show Run K E _ [.fz (.list (iL row)), .fz (.int place)] _
    have hi := rowAt_idx h place
    refine s_ret (ev_ixL (i := place % (row.length : Int)) (ev_var rfl) (ev_ic (ev_var rfl) ((ev_cb (ea_cons (ev_var rfl) ea_nil) rc_len).int_is (by rw [iL_len])) (by omega)) (atN hi.1 (by omega))) rfl
abbrev s_round_image : Stmt := top 22
theorem sc_round_image : FnScope ["one", "row", "_", "offset", "width", "places", "place"] ["one", "row"] (defScope s_round_image) := ⟨rfl, rfl, rfl, by decide +kernel, rfl, by decide +kernel, by decide +kernel⟩
theorem ok_round_image {f : Addr} {fd : FuncData} (F : Fun K "round_image" "round_image" s_round_image f fd) (hm : mg "round_image" = some (.ref f)) (hb : Binds K fd ["one", "row"] []) (c_apply_word : Cal P w K mg base CX0 "apply_word" ["one", "word"] 1 (SpR K R_apply_word)) (c_round_cell : Cal P w K mg base CX0 "round_cell" ["row", "place"] 1 (SpR K R_round_cell)) (M_len : mg "len" = none) (M_range : mg "range" = none) : Cal P w K mg base CX0 "round_image" ["one", "row"] 2 (SpR K R_round_image) := by
  refine def_ok (N := ["one", "row", "_", "offset", "width", "places", "place"]) (k := 1) F hm hb sc_round_image (fun rs r h => by cases h <;> rfl) (fun cdv A outer s H E hr hG => ⟨_, (pss_cons (ps_asg (pv 0) (pg_tup (by rfl) (pgs_cons (pg_name (i := 2) sc_round_image.nd rfl (by first | exact Or.inl rfl | exact Or.inr rfl)) (pgs_cons (pg_name (i := 3) sc_round_image.nd rfl (by first | exact Or.inl rfl | exact Or.inr rfl)) (pgs_cons (pg_name (i := 4) sc_round_image.nd rfl (by first | exact Or.inl rfl | exact Or.inr rfl)) (pgs_cons (pg_name (i := 2) sc_round_image.nd rfl (by first | exact Or.inl rfl | exact Or.inr rfl)) pgs_nil))))))
    (pss_cons (ps_set (i := 5) sc_round_image.nd rfl (by first | exact Or.inl rfl | exact Or.inr rfl) (pe_callTy (show CallR _ (.type "range") rRng2 from cr_range2) (by rfl) M_range (by decide +kernel) (pa_cons (pv 3) (pa_cons (pe_op op_sub (pe_op op_add (pe_op op_add (pv 3) (pe_callB (show CallR _ (.builtin "len") (rLen K) from call_len_seq) (by rfl) M_len (by decide +kernel) (pa_cons (pv 1) pa_nil))) (pv 4)) pe_int) pa_nil))))
    (pss_one (ps_ret (pe_cal c_apply_word hr hG (by decide) (by rfl) (pa_cons (pv 0) (pa_cons (pe_lc (own := [("place", 6)]) (g := gName 6) (tt := tYes) (by rfl) sc_round_image.nd (pi_rngV (pv 5)) (blkOk_by (N := ["one", "row", "_", "offset", "width", "places", "place"]) (sc := defScope s_round_image) (by decide +kernel)) (fun _ _ _ _ _ => pg_name (i := 6) sc_round_image.nd rfl (by first | exact Or.inl rfl | exact Or.inr rfl)) (fun _ _ _ _ _ => pts_nil) (fun _ _ _ _ _ => (pe_cal c_round_cell hr hG (by decide) (by rfl) (pa_cons (pv 1) (pa_cons (pv 6) pa_nil))))) pa_nil))))))), fun rs r h => ?_⟩)
  cases h with
  | mk s o w t row tb ho h hr hz =>
    have hw := tb.hw
    have hw' := tb.wle
    show Run K E _ [.fz (mapD s o w t), .fz (.list (iL row)), .no, .no, .no, .no, .no] _
    refine run_unp (ρ' := [.fz (mapD s o w t), .fz (.list (iL row)), .fz (.list (iL t)), .fz (.int o), .fz (.int (w : Int)), .no, .no]) (ev_var rfl) rfl (gs_cons (gs_cons (gs_cons (gs_cons gs_nil)))) ?_
    refine run_asg (r := .rg o (o + (row.length : Int) + (w : Int) - 1)) (ev_cb (ea_cons (ev_var rfl) (ea_cons (ev_i (ev_i (ev_i (ev_var rfl) ((ev_cb (ea_cons (ev_var rfl) ea_nil) rc_len).int_is (by rw [iL_len]))) (ev_var rfl)) ev_int) ea_nil)) rc_rng2) ?_
    have hl : (roundWord o w row).length = row.length + w - 1 := by unfold roundWord; rw [List.length_map, List.length_range]
    have hin : InR s (roundWord o w row) := inR_rangeMap fun k _ => rowAt_in h hr _
    refine s_ret (r := .ow (iL (roundImage s o w t row))) ?_ rfl
    rw [← roundWord_apply hw]
    refine ev_callS (ea_cons (ev_var rfl) (ea_cons (d := .list (iL (roundWord o w row))) (EvR.fr (ev_lcG (ev_varG rfl) (by omega) (by rw [iL_len, hl]; omega) (small100' (by rw [iL_len, hl]; omega)) fun i e hi he => ?_)) ea_nil)) (.mk s o w t _ tb hin (by omega))
    obtain ⟨_, rfl⟩ := rangeMap_get he
    exact ev_callS (ea_cons (ev_var rfl) (ea_cons (ev_var rfl) ea_nil)) (.mk row _ h)
abbrev s__law_spread : Stmt := top 42
theorem sc__law_spread : FnScope ["cell", "size", "draws", "start", "cells"] ["cell", "size"] (defScope s__law_spread) := ⟨rfl, rfl, rfl, by decide +kernel, rfl, by decide +kernel, by decide +kernel⟩
theorem ok__law_spread {f : Addr} {fd : FuncData} (F : Fun K "_law_spread" "_law_spread" s__law_spread f fd) (hm : mg "_law_spread" = some (.ref f)) (hb : Binds K fd ["cell", "size"] []) (c__law_draws : Cal P w K mg base CX0 "_law_draws" ["cell", "limits"] 1 (SpR K R__law_draws)) : Cal P w K mg base CX0 "_law_spread" ["cell", "size"] 2 (SpR K R__law_spread) := by
  refine def_ok (N := ["cell", "size", "draws", "start", "cells"]) (k := 1) F hm hb sc__law_spread (fun rs r h => by cases h <;> rfl) (fun cdv A outer s H E hr hG => ⟨_, (pss_cons (ps_set (i := 2) sc__law_spread.nd rfl (by first | exact Or.inl rfl | exact Or.inr rfl) (pe_cal c__law_draws hr hG (by decide) (by rfl) (pa_cons (pv 0) (pa_cons (pe_op op_cat (pe_lst (pa_cons (pv 1) (pa_cons pe_int (pa_cons pe_int (pa_cons pe_int pa_nil))))) (pe_op op_rep (pe_lst (pa_cons (pv 1) pa_nil)) pe_int)) pa_nil))))
    (pss_cons (ps_set (i := 3) sc__law_spread.nd rfl (by first | exact Or.inl rfl | exact Or.inr rfl) (pe_op op_sub (pe_ix (show IxR _ (rIxL K) from ix_list) (pv 2) pe_int (fun _ _ => rfl)) pe_int))
    (pss_cons (ps_if (pt_cmpR op_eq (pe_ix (show IxR _ (rIxL K) from ix_list) (pv 2) pe_int (fun _ _ => rfl)) pe_int (nomark _)) (pss_one (ps_set (i := 3) sc__law_spread.nd rfl (by first | exact Or.inl rfl | exact Or.inr rfl) (pe_op op_mul (pv 3) pe_int))) pss_nil)
    (pss_cons (ps_set (i := 4) sc__law_spread.nd rfl (by first | exact Or.inl rfl | exact Or.inr rfl) (pe_slice (show SlR _ (rSlL K) from sl_list) (pv 2) (po_some pe_int) (po_some (pe_op op_add pe_int (pe_ix (show IxR _ (rIxL K) from ix_list) (pv 2) pe_int (fun _ _ => rfl))))))
    (pss_cons (ps_if (pt_cmpR op_eq (pe_ix (show IxR _ (rIxL K) from ix_list) (pv 2) pe_int (fun _ _ => rfl)) pe_int (nomark _)) (pss_one (ps_set (i := 4) sc__law_spread.nd rfl (by first | exact Or.inl rfl | exact Or.inr rfl) (pe_op op_cat (pe_op op_cat (pe_op op_rep (pe_lst (pa_cons (pe_ix (show IxR _ (rIxL K) from ix_list) (pv 2) pe_int (fun _ _ => rfl)) pa_nil)) (pe_op op_and (pe_ix (show IxR _ (rIxL K) from ix_list) (pv 2) pe_int (fun _ _ => rfl)) pe_int)) (pv 4)) (pe_op op_rep (pe_lst (pa_cons (pe_ix (show IxR _ (rIxL K) from ix_list) (pv 2) pe_int (fun _ _ => rfl)) pa_nil)) (pe_op op_and (pe_op op_fdiv (pe_ix (show IxR _ (rIxL K) from ix_list) (pv 2) pe_int (fun _ _ => rfl)) pe_int) pe_int))))) pss_nil)
    (pss_one (ps_ret (pe_tup (pa_cons (pe_ix (show IxR _ (rIxL K) from ix_list) (pv 2) pe_int (fun _ _ => rfl)) (pa_cons (pv 3) (pa_cons (pv 4) pa_nil))))))))))), fun rs r h => ?_⟩)
  cases h with
  | mk c s hs =>
    have lim := spLim_ok hs
    have dl : (lawDraws c (spLim s)).length = 16 := by rw [draws_len]; rfl
    have hd := spD_ok c hs
    show Run K E _ [.fz (.int c), .fz (.int s), .no, .no, .no] _
    refine run_asg (r := .fz (.list (iL (lawDraws c (spLim s))))) (EvR.fr (ev_callS (ea_cons (ev_var rfl) (ea_cons (d := .list (iL (spLim s))) (EvR.fr (EvR.is (ev_cat (ds := iL [s, 41, 9, 4]) (EvR.fr (ev_lst (ea_cons (ev_var rfl) (ea_cons ev_int (ea_cons ev_int (ea_cons ev_int ea_nil)))) (by show 4 ≤ sizeLine; decide))) (EvR.fr (ev_repI (x := s) (n := 12) (ev_var rfl) ev_int (by omega) (by omega))) (by rw [iL_len, iL_len, List.length_replicate]; exact small100' (by show 4 + 12 ≤ 100000; decide))) (by unfold spLim; rw [iL_app]; rfl))) ea_nil)) (.mk _ _ lim (by show 16 < 100000; decide)))) ?_
    have g0 : atI (iL (lawDraws c (spLim s))) (0 : Int) = some (.int (spB c s)) := at0 (by rw [dl]; decide)
    have g1 := at1 (l := lawDraws c (spLim s)) (by rw [dl]; decide)
    have g2 := at2 (l := lawDraws c (spLim s)) (by rw [dl]; decide)
    have g3 := at3 (l := lawDraws c (spLim s)) (by rw [dl]; decide)
    refine run_asg (ev_i (ev_ixL (ev_var rfl) ev_int g1) ev_int) ?_
    refine run_seq (M := fun r => r = [.fz (.int c), .fz (.int s), .fz (.list (iL (lawDraws c (spLim s)))), .fz (.int (spS c s)), .no])
      (s_when (et_test (ev_eqI (ev_ixL (ev_var rfl) ev_int g3) ev_int)) (fun hb => ?_) (fun hb => ?_)) ?_
    · refine s_asg (ev_ic (ev_var rfl) ev_int (.inr (by decide))) ?_
      show _ = _
      unfold spS
      rw [if_pos (of_decide_eq_true hb)]; rfl
    · show _ = _
      unfold spS
      rw [if_neg (of_decide_eq_false hb)]; rfl
    rintro r rfl
    refine run_asg (r := .fz (.list (iL (spC0 c s)))) (EvR.fr (EvR.is (ev_sl (ev_var rfl) (eo_some ev_int) (eo_some (ev_i ev_int (ev_ixL (ev_var rfl) ev_int g2)))) (congrArg Sl.ow (iL_cut _ _ _)))) ?_
    have h0 := spC0_ok c hs
    have a1 := bitAnd_range (getI (lawDraws c (spLim s)) 1) (y := 3) (by decide)
    have a2 := bitAnd_range (getI (lawDraws c (spLim s)) 1 / 4) (y := 3) (by decide)
    refine run_seq (M := fun r => r = [.fz (.int c), .fz (.int s), .fz (.list (iL (lawDraws c (spLim s)))), .fz (.int (spS c s)), .fz (.list (iL (spC c s)))])
      (s_when (et_test (ev_eqI (ev_ixL (ev_var rfl) ev_int g3) ev_int)) (fun hb => ?_) (fun hb => ?_)) ?_
    · refine s_asg (r := .fz (.list (iL (spC c s)))) (EvR.fr (EvR.is (ev_cat (EvR.fr (ev_cat (EvR.fr (ev_repI (x := spB c s) (n := Builtin.bitAnd (getI (lawDraws c (spLim s)) 1) 3) (ev_ixL (ev_var rfl) ev_int g0) (ev_i (ev_ixL (ev_var rfl) ev_int g1) ev_int) (by omega) (by omega))) (ev_var rfl) ?_)) (EvR.fr (ev_repI (x := spB c s) (n := Builtin.bitAnd (getI (lawDraws c (spLim s)) 1 / 4) 3) (ev_ixL (ev_var rfl) ev_int g0) (ev_i (ev_ic (ev_ixL (ev_var rfl) ev_int g1) ev_int ⟨by decide, by decide⟩) ev_int) (by omega) (by omega))) ?_) ?_)) rfl
      · rw [iL_len, iL_len, List.length_replicate]; exact small100' (by omega)
      · rw [List.length_append, iL_len, iL_len, iL_len, List.length_replicate, List.length_replicate]; exact small100' (by omega)
      · unfold spC
        rw [if_pos (of_decide_eq_true hb), iL_app, iL_app]
    · show _ = _
      unfold spC
      rw [if_neg (of_decide_eq_false hb)]; rfl
    rintro r rfl
    exact s_ret (ev_tup (ds := [.int (spB c s), .int (spS c s), .list (iL (spC c s))]) (ea_cons (ev_ixL (ev_var rfl) ev_int g0) (ea_cons (ev_var rfl) (ea_cons (ev_var rfl) ea_nil))) (by show 3 ≤ sizeLine; decide)) rfl
abbrev s_word_number : Stmt := top 10
theorem sc_word_number : FnScope ["size", "word", "number", "cell"] ["size", "word"] (defScope s_word_number) := ⟨rfl, rfl, rfl, by decide +kernel, rfl, by decide +kernel, by decide +kernel⟩
theorem ok_word_number {f : Addr} {fd : FuncData} (F : Fun K "word_number" "word_number" s_word_number f fd) (hm : mg "word_number" = some (.ref f)) (hb : Binds K fd ["size", "word"] [])  : Cal P w K mg base CX0 "word_number" ["size", "word"] 1 (SpR K R_word_number) := by
  refine def_ok (N := ["size", "word", "number", "cell"]) (k := 0) F hm hb sc_word_number (fun rs r h => by cases h <;> rfl) (fun cdv A outer s H E hr hG => ⟨_, (pss_cons (ps_set (i := 2) sc_word_number.nd rfl (by first | exact Or.inl rfl | exact Or.inr rfl) pe_int)
    (pss_cons (ps_for PassesOwn.never rfl (pi_list (pv 1)) (pg_name (i := 3) sc_word_number.nd rfl (by first | exact Or.inl rfl | exact Or.inr rfl)) (pss_one (ps_set (i := 2) sc_word_number.nd rfl (by first | exact Or.inl rfl | exact Or.inr rfl) (pe_op op_add (pe_op op_mul (pv 2) (pv 0)) (pv 3)))))
    (pss_one (ps_ret (pv 2))))), fun rs r h => ?_⟩)
  cases h with
  | mk cells size h1 =>
    show Run K E _ [.fz (.int size), .fz (.list (iL cells)), .no, .no] _
    refine run_asg ev_int ?_
    refine run_seq (M := fun r => r = [.fz (.int size), .fz (.list (iL cells)), .fz (.int (lawIndex cells size)), .no]) (s_forL [3] (ev_var rfl) (fun i r => r = [.fz (.int size), .fz (.list (iL cells)), .fz (.int (lawIndex (cells.take i) size)), .no]) rfl ?_ (fun r h => ?_)) ?_
    · rintro i d r hi rfl
      obtain ⟨k, hk, rfl⟩ := iL_get hi
      refine s_asg (ev_i (ev_ic (ev_var rfl) (ev_var rfl) (.inr h1)) (ev_var rfl)) ?_
      show _ = _
      rw [take_succ_some hk]
      unfold lawIndex
      rw [List.foldl_append]; rfl
    · rw [iL_len, List.take_length] at h
      exact h
    · rintro r rfl
      exact s_ret (ev_var rfl) rfl
abbrev s_new_cell : Stmt := top 11
theorem sc_new_cell : FnScope ["one", "window", "size", "_", "table"] ["one", "window"] (defScope s_new_cell) := ⟨rfl, rfl, rfl, by decide +kernel, rfl, by decide +kernel, by decide +kernel⟩
theorem ok_new_cell {f : Addr} {fd : FuncData} (F : Fun K "new_cell" "new_cell" s_new_cell f fd) (hm : mg "new_cell" = some (.ref f)) (hb : Binds K fd ["one", "window"] []) (c_word_number : Cal P w K mg base CX0 "word_number" ["size", "word"] 1 (SpR K R_word_number)) : Cal P w K mg base CX0 "new_cell" ["one", "window"] 2 (SpR K R_new_cell) := by
  refine def_ok (N := ["one", "window", "size", "_", "table"]) (k := 1) F hm hb sc_new_cell (fun rs r h => by cases h <;> rfl) (fun cdv A outer s H E hr hG => ⟨_, (pss_cons (ps_asg (pv 0) (pg_tup (by rfl) (pgs_cons (pg_name (i := 2) sc_new_cell.nd rfl (by first | exact Or.inl rfl | exact Or.inr rfl)) (pgs_cons (pg_name (i := 3) sc_new_cell.nd rfl (by first | exact Or.inl rfl | exact Or.inr rfl)) (pgs_cons (pg_name (i := 3) sc_new_cell.nd rfl (by first | exact Or.inl rfl | exact Or.inr rfl)) (pgs_cons (pg_name (i := 4) sc_new_cell.nd rfl (by first | exact Or.inl rfl | exact Or.inr rfl)) pgs_nil))))))
    (pss_one (ps_ret (pe_ix (show IxR _ (rIxL K) from ix_list) (pv 4) (pe_cal c_word_number hr hG (by decide) (by rfl) (pa_cons (pv 2) (pa_cons (pv 1) pa_nil))) (fun _ _ => rfl))))), fun rs r h => ?_⟩)
  cases h with
  | mk s o w t cs h hc hl =>
    have hs := h.hs
    show Run K E _ [.fz (mapD s o w t), .fz (.list (iL cs)), .no, .no, .no] _
    refine run_unp (ρ' := [.fz (mapD s o w t), .fz (.list (iL cs)), .fz (.int s), .fz (.int (w : Int)), .fz (.list (iL t))]) (ev_var rfl) rfl (gs_cons (gs_cons (gs_cons (gs_cons gs_nil)))) ?_
    obtain ⟨i, h1, h2⟩ := h.at hc hl
    refine s_ret (ev_ixL (i := (i : Int)) (ev_var rfl) ?_ (atI_of (iL_at h2))) rfl
    rw [← h1]
    exact ev_callS (ea_cons (ev_var rfl) (ea_cons (ev_var rfl) ea_nil)) (.mk _ _ (by omega))
abbrev s_spread_simple : Stmt := top 25
theorem sc_spread_simple : FnScope ["row", "background", "start", "cells", "first", "after"] ["row"] (defScope s_spread_simple) := ⟨rfl, rfl, rfl, by decide +kernel, rfl, by decide +kernel, by decide +kernel⟩
theorem ok_spread_simple {f : Addr} {fd : FuncData} (F : Fun K "spread_simple" "spread_simple" s_spread_simple f fd) (hm : mg "spread_simple" = some (.ref f)) (hb : Binds K fd ["row"] []) (M_len : mg "len" = none) : Cal P w K mg base CX0 "spread_simple" ["row"] 1 (SpR K R_spread_simple) := by
  refine def_ok (N := ["row", "background", "start", "cells", "first", "after"]) (k := 0) F hm hb sc_spread_simple (fun rs r h => by cases h <;> rfl) (fun cdv A outer s H E hr hG => ⟨_, (pss_cons (ps_asg (pv 0) (pg_tup (by rfl) (pgs_cons (pg_name (i := 1) sc_spread_simple.nd rfl (by first | exact Or.inl rfl | exact Or.inr rfl)) (pgs_cons (pg_name (i := 2) sc_spread_simple.nd rfl (by first | exact Or.inl rfl | exact Or.inr rfl)) (pgs_cons (pg_name (i := 3) sc_spread_simple.nd rfl (by first | exact Or.inl rfl | exact Or.inr rfl)) pgs_nil)))))
    (pss_cons (ps_set (i := 4) sc_spread_simple.nd rfl (by first | exact Or.inl rfl | exact Or.inr rfl) pe_int)
    (pss_cons (ps_set (i := 5) sc_spread_simple.nd rfl (by first | exact Or.inl rfl | exact Or.inr rfl) (pe_callB (show CallR _ (.builtin "len") (rLen K) from call_len_seq) (by rfl) M_len (by decide +kernel) (pa_cons (pv 3) pa_nil)))
    (pss_cons (ps_while PassesOwn.never (PW.pt (pw_and (pt_cmpR op_lt (pv 4) (pv 5) (nomark _)) (pw_and1 (pt_cmpR op_eq (pe_ix (show IxR _ (rIxL K) from ix_list) (pv 3) (pv 4) (fun _ _ => rfl)) (pv 1) (nomark _))))) (pss_one (ps_aug (i := 4) sc_spread_simple.nd rfl (by first | exact Or.inl rfl | exact Or.inr rfl) pe_int ip_add)))
    (pss_cons (ps_while PassesOwn.never (PW.pt (pw_and (pt_cmpR op_lt (pv 4) (pv 5) (nomark _)) (pw_and1 (pt_cmpR op_eq (pe_ix (show IxR _ (rIxL K) from ix_list) (pv 3) (pe_op op_sub (pv 5) pe_int) (fun _ _ => rfl)) (pv 1) (nomark _))))) (pss_one (ps_aug (i := 5) sc_spread_simple.nd rfl (by first | exact Or.inl rfl | exact Or.inr rfl) pe_int ip_sub)))
    (pss_cons (ps_if (pt_cmpR op_eq (pv 4) (pv 5) (nomark _)) (pss_one (ps_ret (pe_tup (pa_cons (pv 1) (pa_cons pe_int (pa_cons (pe_lst pa_nil) pa_nil)))))) pss_nil)
    (pss_one (ps_ret (pe_tup (pa_cons (pv 1) (pa_cons (pe_op op_add (pv 2) (pv 4)) (pa_cons (pe_slice (show SlR _ (rSlL K) from sl_list) (pv 3) (po_some (pv 4)) (po_some (pv 5))) pa_nil)))))))))))), fun rs r h => ?_⟩)
  cases h with
  | mk b st cells hz =>
    have hl := spL_ok (b := b) (cells := cells)
    have hF := spF_le (b := b) (cells := cells)
    show Run K E _ [.fz (spreadD b st cells), .no, .no, .no, .no, .no] _
    refine run_unp (ρ' := [.fz (spreadD b st cells), .fz (.int b), .fz (.int st), .fz (.list (iL cells)), .no, .no]) (ev_var rfl) rfl (gs_cons (gs_cons (gs_cons gs_nil))) ?_
    refine run_asg (r := .fz (.int ((0 : Nat) : Int))) ev_int ?_
    refine run_asg (r := .fz (.int (cells.length : Int))) ((ev_cb (ea_cons (ev_var rfl) ea_nil) rc_len).int_is (by rw [iL_len])) ?_
    refine run_seq (M := fun r => r = [.fz (spreadD b st cells), .fz (.int b), .fz (.int st), .fz (.list (iL cells)), .fz (.int (spF b cells : Int)), .fz (.int (cells.length : Int))])
      (s_while (fun m r => ∃ x : Nat, m = cells.length - x ∧ x ≤ cells.length ∧ itN (stepF b cells) x 0 = x ∧ r = [.fz (spreadD b st cells), .fz (.int b), .fz (.int st), .fz (.list (iL cells)), .fz (.int (x : Int)), .fz (.int (cells.length : Int))]) cells.length ⟨0, by omega, Nat.zero_le _, rfl, rfl⟩ ?_) ?_
    · rintro m r ⟨x, rfl, hx, hi, rfl⟩
      refine ⟨decide (x < cells.length) && decide (getI cells x = b), et_and (et_is (et_test (ev_b (g := fun i j => decide (i < j)) (a := (x : Int)) (b := (cells.length : Int)) (ev_var rfl) (ev_var rfl))) (decide_eq_decide.mpr (by omega))) (fun z => et_test (ev_eqI (ev_ixL (ev_var rfl) (ev_var rfl) (atI_of (iL_at (getI_at (of_decide_eq_true z))))) (ev_var rfl))), fun hb => ?_, fun hb => ?_⟩
      · rw [Bool.and_eq_true, decide_eq_true_eq, decide_eq_true_eq] at hb
        refine s_aug rfl ev_int ⟨cells.length - (x + 1), by omega, x + 1, rfl, by omega, ?_, rfl⟩
        rw [itN_snoc, hi]
        unfold stepF
        exact if_pos hb
      · have hn : ¬ (x < cells.length ∧ getI cells x = b) := fun z => by rw [decide_eq_true z.1, decide_eq_true z.2] at hb; cases hb
        show _ = _
        rw [← spF_uniq hi hx (by unfold stepF; exact if_neg hn)]
    rintro r rfl
    refine run_seq (M := fun r => r = [.fz (spreadD b st cells), .fz (.int b), .fz (.int st), .fz (.list (iL cells)), .fz (.int (spF b cells : Int)), .fz (.int (spL b cells : Int))])
      (s_while (fun m r => ∃ y : Nat, m = y ∧ spF b cells ≤ y ∧ y ≤ cells.length ∧ itN (stepL b cells (spF b cells)) (cells.length - y) cells.length = y ∧ r = [.fz (spreadD b st cells), .fz (.int b), .fz (.int st), .fz (.list (iL cells)), .fz (.int (spF b cells : Int)), .fz (.int (y : Int))]) cells.length ⟨cells.length, rfl, hF, Nat.le_refl _, by rw [Nat.sub_self]; rfl, rfl⟩ ?_) ?_
    · rintro m r ⟨y, rfl, h1, h2, hi, rfl⟩
      refine ⟨decide (spF b cells < m) && decide (getI cells (m - 1) = b), et_and (et_is (et_test (ev_b (g := fun i j => decide (i < j)) (a := (spF b cells : Int)) (b := (m : Int)) (ev_var rfl) (ev_var rfl))) (decide_eq_decide.mpr (by omega))) (fun z => et_test (ev_eqI (ev_ixL (ev_var rfl) (ev_i (ev_var rfl) ev_int) ?_) (ev_var rfl))), fun hb => ?_, fun hb => ?_⟩
      · have := of_decide_eq_true z
        show atI (iL cells) ((m : Int) - 1) = _
        rw [show (m : Int) - 1 = ((m - 1 : Nat) : Int) by omega]
        exact atI_of (iL_at (getI_at (by omega)))
      · rw [Bool.and_eq_true, decide_eq_true_eq, decide_eq_true_eq] at hb
        refine s_aug rfl ev_int ⟨m - 1, by omega, m - 1, rfl, by omega, by omega, ?_, ?_⟩
        · rw [show cells.length - (m - 1) = cells.length - m + 1 by omega, itN_snoc, hi]
          unfold stepL
          exact if_pos hb
        · show [_, _, _, _, _, Sl.fz (.int ((m : Int) - 1))] = _
          rw [show (m : Int) - 1 = ((m - 1 : Nat) : Int) by omega]
      · have hn : ¬ (spF b cells < m ∧ getI cells (m - 1) = b) := fun z => by rw [decide_eq_true z.1, decide_eq_true z.2] at hb; cases hb
        show _ = _
        rw [← spL_uniq (show cells.length - m ≤ cells.length by omega) hi (by unfold stepL; exact if_neg hn)]
    rintro r rfl
    refine run_when (b := decide (spF b cells = spL b cells)) (et_is (et_test (ev_eqI (ev_var rfl) (ev_var rfl))) (decide_eq_decide.mpr (by omega))) (fun hb => ?_) (fun hb => ?_)
    · have he := of_decide_eq_true hb
      refine run_gone (s_retM (em_tup (em_cons (EvR.atomP (ev_var rfl) rfl).mv (em_cons (EvR.atomP ev_int rfl).mv (em_cons (EvR.toP (ev_lst (ds := []) ea_nil (Nat.zero_le _)) rfl).mv em_nil))) (by show 3 ≤ sizeLine; decide)) ?_)
      show Sl.pv _ = Sl.pv _
      unfold spSimple spSt spBody
      rw [if_pos he, he, Nat.sub_self, List.take_zero]; rfl
    · have he := of_decide_eq_false hb
      refine s_retM (em_tup (em_cons (EvR.atomP (ev_var rfl) rfl).mv (em_cons (EvR.atomP (ev_i (ev_var rfl) (ev_var rfl)) rfl).mv (em_cons (EvR.toP (EvR.is (ev_sl (ev_var rfl) (eo_some (ev_var rfl)) (eo_some (ev_var rfl))) (congrArg Sl.ow (iL_cut _ _ _))) (atoms_ints _)).mv em_nil))) (by show 3 ≤ sizeLine; decide)) ?_
      show Sl.pv _ = Sl.pv _
      unfold spSimple spSt spBody
      rw [if_neg he, cut_nat]; rfl
abbrev s_spread_image : Stmt := top 24
theorem sc_spread_image : FnScope ["one", "row", "_", "offset", "width", "background", "start", "cells", "margin", "image", "new_background"] ["one", "row"] (defScope s_spread_image) := ⟨rfl, rfl, rfl, by decide +kernel, rfl, by decide +kernel, by decide +kernel⟩
theorem ok_spread_image {f : Addr} {fd : FuncData} (F : Fun K "spread_image" "spread_image" s_spread_image f fd) (hm : mg "spread_image" = some (.ref f)) (hb : Binds K fd ["one", "row"] []) (c_apply_word : Cal P w K mg base CX0 "apply_word" ["one", "word"] 1 (SpR K R_apply_word)) (c_new_cell : Cal P w K mg base CX0 "new_cell" ["one", "window"] 2 (SpR K R_new_cell)) (c_spread_simple : Cal P w K mg base CX0 "spread_simple" ["row"] 1 (SpR K R_spread_simple)) : Cal P w K mg base CX0 "spread_image" ["one", "row"] 3 (SpR K R_spread_image) := by
  refine def_ok (N := ["one", "row", "_", "offset", "width", "background", "start", "cells", "margin", "image", "new_background"]) (k := 2) F hm hb sc_spread_image (fun rs r h => by cases h <;> rfl) (fun cdv A outer s H E hr hG => ⟨_, (pss_cons (ps_asg (pv 0) (pg_tup (by rfl) (pgs_cons (pg_name (i := 2) sc_spread_image.nd rfl (by first | exact Or.inl rfl | exact Or.inr rfl)) (pgs_cons (pg_name (i := 3) sc_spread_image.nd rfl (by first | exact Or.inl rfl | exact Or.inr rfl)) (pgs_cons (pg_name (i := 4) sc_spread_image.nd rfl (by first | exact Or.inl rfl | exact Or.inr rfl)) (pgs_cons (pg_name (i := 2) sc_spread_image.nd rfl (by first | exact Or.inl rfl | exact Or.inr rfl)) pgs_nil))))))
    (pss_cons (ps_asg (pv 1) (pg_tup (by rfl) (pgs_cons (pg_name (i := 5) sc_spread_image.nd rfl (by first | exact Or.inl rfl | exact Or.inr rfl)) (pgs_cons (pg_name (i := 6) sc_spread_image.nd rfl (by first | exact Or.inl rfl | exact Or.inr rfl)) (pgs_cons (pg_name (i := 7) sc_spread_image.nd rfl (by first | exact Or.inl rfl | exact Or.inr rfl)) pgs_nil)))))
    (pss_cons (ps_set (i := 8) sc_spread_image.nd rfl (by first | exact Or.inl rfl | exact Or.inr rfl) (pe_op op_rep (pe_lst (pa_cons (pv 5) pa_nil)) (pe_op op_sub (pv 4) pe_int)))
    (pss_cons (ps_set (i := 9) sc_spread_image.nd rfl (by first | exact Or.inl rfl | exact Or.inr rfl) (pe_cal c_apply_word hr hG (by decide) (by rfl) (pa_cons (pv 0) (pa_cons (pe_op op_cat (pe_op op_cat (pv 8) (pv 7)) (pv 8)) pa_nil))))
    (pss_cons (ps_set (i := 10) sc_spread_image.nd rfl (by first | exact Or.inl rfl | exact Or.inr rfl) (pe_cal c_new_cell hr hG (by decide) (by rfl) (pa_cons (pv 0) (pa_cons (pe_op op_rep (pe_lst (pa_cons (pv 5) pa_nil)) (pv 4)) pa_nil))))
    (pss_one (ps_ret (pe_cal c_spread_simple hr hG (by decide) (by rfl) (pa_cons (pe_tup (pa_cons (pv 10) (pa_cons (pe_op op_add (pe_op op_sub (pe_op op_sub (pv 6) (pv 3)) (pv 4)) pe_int) (pa_cons (pv 9) pa_nil)))) pa_nil))))))))), fun rs r h => ?_⟩)
  cases h with
  | mk s o w t b st cells tb hb hr hz =>
    have hw := tb.hw
    have hw' := tb.wle
    show Run K E _ [.fz (mapD s o w t), .fz (spreadD b st cells), .no, .no, .no, .no, .no, .no, .no, .no, .no] _
    refine run_unp (ρ' := [.fz (mapD s o w t), .fz (spreadD b st cells), .fz (.list (iL t)), .fz (.int o), .fz (.int (w : Int)), .no, .no, .no, .no, .no, .no]) (ev_var rfl) rfl (gs_cons (gs_cons (gs_cons (gs_cons gs_nil)))) ?_
    refine run_unp (ρ' := [.fz (mapD s o w t), .fz (spreadD b st cells), .fz (.list (iL t)), .fz (.int o), .fz (.int (w : Int)), .fz (.int b), .fz (.int st), .fz (.list (iL cells)), .no, .no, .no]) (ev_var rfl) rfl (gs_cons (gs_cons (gs_cons gs_nil))) ?_
    refine run_asg (r := .fz (.list (iL (List.replicate (w - 1) b)))) (EvR.fr (EvR.is (ev_repI (n := (w : Int) - 1) (ev_var rfl) (ev_i (ev_var rfl) ev_int) (by omega) (by omega)) (by rw [show ((w : Int) - 1).toNat = w - 1 by omega]))) ?_
    have hpad : InR s (padW b w cells) := by
      have hrep : InR s (List.replicate (w - 1) b) := fun c hc => by rw [(List.mem_replicate.mp hc).2]; exact hb
      exact (hrep.app hr).app hrep
    have hpl := padW_len b w cells
    refine run_asg (r := .fz (.list (iL (spImgCells s w t b cells)))) (EvR.fr (ev_callS (ea_cons (ev_var rfl) (ea_cons (d := .list (iL (padW b w cells))) (EvR.fr (EvR.is (ev_cat (EvR.fr (ev_cat (ev_var rfl) (ev_var rfl) ?_)) (ev_var rfl) ?_) ?_)) ea_nil)) (.mk s o w t _ tb hpad (by omega)))) ?_
    · rw [iL_len, iL_len, List.length_replicate]; exact small100' (by omega)
    · rw [List.length_append, iL_len, iL_len, List.length_replicate]; exact small100' (by omega)
    · unfold padW
      rw [iL_app, iL_app]
    have hil : (spImgCells s w t b cells).length ≤ 50000 := by unfold spImgCells; rw [lawApply_len]; omega
    refine run_asg (r := .fz (.int (spNew s w t b))) (ev_callS (ea_cons (ev_var rfl) (ea_cons (d := .list (iL (List.replicate w b))) (EvR.fr (EvR.is (ev_repI (n := (w : Int)) (ev_var rfl) (ev_var rfl) (by omega) (by omega)) (by rw [Int.toNat_natCast]))) ea_nil)) (.mk s o w t _ tb (fun c hc => by rw [(List.mem_replicate.mp hc).2]; exact hb) (by rw [List.length_replicate]))) ?_
    exact s_ret (ev_callS (ea_cons (ev_tup (ds := [.int (spNew s w t b), .int (st - o - (w : Int) + 1), .list (iL (spImgCells s w t b cells))]) (ea_cons (ev_var rfl) (ea_cons (ev_i (ev_i (ev_i (ev_var rfl) (ev_var rfl)) (ev_var rfl)) ev_int) (ea_cons (ev_var rfl) ea_nil))) (by show 3 ≤ sizeLine; decide)) ea_nil) (.mk _ _ _ hil)) rfl
abbrev s_law : Stmt := top 44
theorem sc_law : FnScope ["script", "first", "second", "size", "both", "short", "twice", "places", "moved", "later", "cell", "row", "due", "n", "k", "wide", "image", "back", "word", "cut", "rest"] ["script"] (defScope s_law) := ⟨rfl, rfl, rfl, by decide +kernel, rfl, by decide +kernel, by decide +kernel⟩
theorem ok_law {f : Addr} {fd : FuncData} (F : Fun K "law" "law" s_law f fd) (hm : mg "law" = some (.ref f)) (hb : Binds K fd ["script"] []) {C_OutOfRange : Addr} (c__law_map : Cal P w K mg base CX0 "_law_map" ["cell", "more", "most"] 3 (SpR K R__law_map)) (c__law_cell : Cal P w K mg base CX0 "_law_cell" ["script", "k"] 1 (SpR K R__law_cell)) (c__law_second : Cal P w K mg base CX0 "_law_second" ["first", "cell", "more"] 3 (SpR K R__law_second)) (c_composed : Cal P w K mg base (L2.CX P w) "composed" ["first", "second"] 2 (SpR K (R_composed C_OutOfRange))) (c_reduced : Cal P w K mg base (L2.CX P w) "reduced" ["one"] 3 (SpR K (R_reduced C_OutOfRange))) (c_power : Cal P w K mg base (L2.CX P w) "power" ["one", "exponent"] 4 (SpR K (R_power C_OutOfRange))) (c_shift_map : Cal P w K mg base (L2.CX P w) "shift_map" ["size", "places"] 2 (SpR K (R_shift_map C_OutOfRange))) (c__law_draws : Cal P w K mg base CX0 "_law_draws" ["cell", "limits"] 1 (SpR K R__law_draws)) (c_round_image : Cal P w K mg base CX0 "round_image" ["one", "row"] 2 (SpR K R_round_image)) (c__law_spread : Cal P w K mg base CX0 "_law_spread" ["cell", "size"] 2 (SpR K R__law_spread)) (c_spread_image : Cal P w K mg base CX0 "spread_image" ["one", "row"] 3 (SpR K R_spread_image)) (c_spread_simple : Cal P w K mg base CX0 "spread_simple" ["row"] 1 (SpR K R_spread_simple)) (c_apply_word : Cal P w K mg base CX0 "apply_word" ["one", "word"] 1 (SpR K R_apply_word)) (M_int : mg "int" = none) (M_len : mg "len" = none) (M_range : mg "range" = none) (G_OutOfRange : mg "OutOfRange" = some (.ref C_OutOfRange)) (T_OutOfRange : ExcT K C_OutOfRange) : Cal P w K mg base CX0 "law" ["script"] 5 (SpR K R_law) := by
  refine def_ok (N := ["script", "first", "second", "size", "both", "short", "twice", "places", "moved", "later", "cell", "row", "due", "n", "k", "wide", "image", "back", "word", "cut", "rest"]) (k := 4) F hm hb sc_law (fun rs r h => by cases h <;> rfl) (fun cdv A outer s H E hr hG => ⟨_, (pss_cons (ps_set (i := 1) sc_law.nd rfl (by first | exact Or.inl rfl | exact Or.inr rfl) (pe_cal c__law_map hr hG (by decide) (by rfl) (pa_cons (pe_cal c__law_cell hr hG (by decide) (by rfl) (pa_cons (pv 0) (pa_cons pe_int pa_nil))) (pa_cons (pe_cal c__law_cell hr hG (by decide) (by rfl) (pa_cons (pv 0) (pa_cons pe_int pa_nil))) (pa_cons pe_int pa_nil)))))
    (pss_cons (ps_set (i := 1) sc_law.nd rfl (by first | exact Or.inl rfl | exact Or.inr rfl) (pe_op op_catT (pe_op op_catT (pe_slice sl_tup (pv 1) po_none (po_some pe_int)) (pe_tup (pa_cons (pe_op op_sub (pe_op op_mod (pe_callTy call_int1 (by rfl) M_int (by decide +kernel) (pa_cons (pe_ix (show IxR _ (rIxT K) from ix_tup) (pv 1) pe_int (fun _ _ => rfl)) pa_nil)) pe_int) pe_int) pa_nil))) (pe_slice sl_tup (pv 1) (po_some pe_int) po_none)))
    (pss_cons (ps_set (i := 2) sc_law.nd rfl (by first | exact Or.inl rfl | exact Or.inr rfl) (pe_cal c__law_second hr hG (by decide) (by rfl) (pa_cons (pv 1) (pa_cons (pe_cal c__law_cell hr hG (by decide) (by rfl) (pa_cons (pv 0) (pa_cons pe_int pa_nil))) (pa_cons (pe_cal c__law_cell hr hG (by decide) (by rfl) (pa_cons (pv 0) (pa_cons pe_int pa_nil))) pa_nil)))))
    (pss_cons (ps_set (i := 3) sc_law.nd rfl (by first | exact Or.inl rfl | exact Or.inr rfl) (pe_ix (show IxR _ (rIxT K) from ix_tup) (pv 1) pe_int (fun _ _ => rfl)))
    (pss_cons (ps_set (i := 4) sc_law.nd rfl (by first | exact Or.inl rfl | exact Or.inr rfl) (pe_calN c_composed hr hG (by decide) (by rfl) (pa_cons (pv 1) (pa_cons (pv 2) pa_nil))))
    (pss_cons (ps_set (i := 5) sc_law.nd rfl (by first | exact Or.inl rfl | exact Or.inr rfl) (pe_calN c_reduced hr hG (by decide) (by rfl) (pa_cons (pv 4) pa_nil)))
    (pss_cons (ps_set (i := 6) sc_law.nd rfl (by first | exact Or.inl rfl | exact Or.inr rfl) (pe_calN c_power hr hG (by decide) (by rfl) (pa_cons (pv 1) (pa_cons pe_int pa_nil))))
    (pss_cons (ps_set (i := 7) sc_law.nd rfl (by first | exact Or.inl rfl | exact Or.inr rfl) (pe_op op_sub (pe_op op_mod (pe_callTy call_int1 (by rfl) M_int (by decide +kernel) (pa_cons (pe_cal c__law_cell hr hG (by decide) (by rfl) (pa_cons (pv 0) (pa_cons pe_int pa_nil))) pa_nil)) pe_int) pe_int))
    (pss_cons (ps_set (i := 8) sc_law.nd rfl (by first | exact Or.inl rfl | exact Or.inr rfl) (pe_calN c_composed hr hG (by decide) (by rfl) (pa_cons (pe_calN c_shift_map hr hG (by decide) (by rfl) (pa_cons (pv 3) (pa_cons (pv 7) pa_nil))) (pa_cons (pv 1) pa_nil))))
    (pss_cons (ps_set (i := 9) sc_law.nd rfl (by first | exact Or.inl rfl | exact Or.inr rfl) (pe_calN c_composed hr hG (by decide) (by rfl) (pa_cons (pv 1) (pa_cons (pe_calN c_shift_map hr hG (by decide) (by rfl) (pa_cons (pv 3) (pa_cons (pv 7) pa_nil))) pa_nil))))
    (pss_cons (ps_if (pt_cmpR (show OpR _ (compareOp .NotEq) (rNeD K) from op_neD hr.units) (pe_calN c_reduced hr hG (by decide) (by rfl) (pa_cons (pv 8) pa_nil)) (pe_calN c_reduced hr hG (by decide) (by rfl) (pa_cons (pv 9) pa_nil)) (nomark _)) (pss_one (ps_ret pe_bl)) pss_nil)
    (pss_cons (ps_for PassesOwn.never rfl (pi_list (pe_op op_cat (pe_lst (pa_cons pe_int (pa_cons pe_int pa_nil))) (pe_slice (show SlR _ (rSlL K) from sl_list) (pv 0) (po_some pe_int) (po_some pe_int)))) (pg_name (i := 10) sc_law.nd rfl (by first | exact Or.inl rfl | exact Or.inr rfl)) (pss_cons (ps_set (i := 11) sc_law.nd rfl (by first | exact Or.inl rfl | exact Or.inr rfl) (pe_cal c__law_draws hr hG (by decide) (by rfl) (pa_cons (pv 10) (pa_cons (pe_op op_rep (pe_lst (pa_cons (pv 3) pa_nil)) (pe_op op_add pe_int (pe_op op_mod (pe_callTy call_int1 (by rfl) M_int (by decide +kernel) (pa_cons (pv 10) pa_nil)) pe_int))) pa_nil))))
      (pss_cons (ps_set (i := 12) sc_law.nd rfl (by first | exact Or.inl rfl | exact Or.inr rfl) (pe_cal c_round_image hr hG (by decide) (by rfl) (pa_cons (pv 2) (pa_cons (pe_cal c_round_image hr hG (by decide) (by rfl) (pa_cons (pv 1) (pa_cons (pv 11) pa_nil))) pa_nil))))
      (pss_cons (ps_if (PW.pt (pw_or (pt_cmpR (show OpR _ (compareOp .NotEq) (rNeD K) from op_neD hr.units) (pe_cal c_round_image hr hG (by decide) (by rfl) (pa_cons (pv 4) (pa_cons (pv 11) pa_nil))) (pv 12) (nomark _)) (pw_or1 (pt_cmpR (show OpR _ (compareOp .NotEq) (rNeD K) from op_neD hr.units) (pe_cal c_round_image hr hG (by decide) (by rfl) (pa_cons (pv 5) (pa_cons (pv 11) pa_nil))) (pv 12) (nomark _))))) (pss_one (ps_ret pe_bl)) pss_nil)
      (pss_cons (ps_if (pt_cmpR (show OpR _ (compareOp .NotEq) (rNeD K) from op_neD hr.units) (pe_cal c_round_image hr hG (by decide) (by rfl) (pa_cons (pv 6) (pa_cons (pv 11) pa_nil))) (pe_cal c_round_image hr hG (by decide) (by rfl) (pa_cons (pv 1) (pa_cons (pe_cal c_round_image hr hG (by decide) (by rfl) (pa_cons (pv 1) (pa_cons (pv 11) pa_nil))) pa_nil))) (nomark _)) (pss_one (ps_ret pe_bl)) pss_nil)
      (pss_cons (ps_set (i := 13) sc_law.nd rfl (by first | exact Or.inl rfl | exact Or.inr rfl) (pe_callB (show CallR _ (.builtin "len") (rLen K) from call_len_seq) (by rfl) M_len (by decide +kernel) (pa_cons (pv 11) pa_nil)))
      (pss_cons (ps_if (pt_cmpR (show OpR _ (compareOp .NotEq) (rNeD K) from op_neD hr.units) (pe_cal c_round_image hr hG (by decide) (by rfl) (pa_cons (pv 8) (pa_cons (pv 11) pa_nil))) (pe_cal c_round_image hr hG (by decide) (by rfl) (pa_cons (pv 1) (pa_cons (pe_lc (own := [("k", 14)]) (g := gName 14) (tt := tYes) (by rfl) sc_law.nd (pi_range1 (by rfl) M_range (pa_cons (pv 13) pa_nil)) (blkOk_by (N := ["script", "first", "second", "size", "both", "short", "twice", "places", "moved", "later", "cell", "row", "due", "n", "k", "wide", "image", "back", "word", "cut", "rest"]) (sc := defScope s_law) (by decide +kernel)) (fun _ _ _ _ _ => pg_name (i := 14) sc_law.nd rfl (by first | exact Or.inl rfl | exact Or.inr rfl)) (fun _ _ _ _ _ => pts_nil) (fun _ _ _ _ _ => (pe_ix (show IxR _ (rIxL K) from ix_list) (pv 11) (pe_op op_mod (pe_callTy call_int1 (by rfl) M_int (by decide +kernel) (pa_cons (pe_op op_add (pv 14) (pv 7)) pa_nil)) (pv 13)) (fun _ _ => rfl)))) pa_nil))) (nomark _)) (pss_one (ps_ret pe_bl)) pss_nil)
      (pss_cons (ps_set (i := 15) sc_law.nd rfl (by first | exact Or.inl rfl | exact Or.inr rfl) (pe_cal c__law_spread hr hG (by decide) (by rfl) (pa_cons (pv 10) (pa_cons (pv 3) pa_nil))))
      (pss_cons (ps_set (i := 16) sc_law.nd rfl (by first | exact Or.inl rfl | exact Or.inr rfl) (pe_cal c_spread_image hr hG (by decide) (by rfl) (pa_cons (pv 2) (pa_cons (pe_cal c_spread_image hr hG (by decide) (by rfl) (pa_cons (pv 1) (pa_cons (pv 15) pa_nil))) pa_nil))))
      (pss_cons (ps_if (PW.pt (pw_or (pt_cmpR (show OpR _ (compareOp .NotEq) (rNeD K) from op_neD hr.units) (pe_cal c_spread_image hr hG (by decide) (by rfl) (pa_cons (pv 4) (pa_cons (pv 15) pa_nil))) (pv 16) (nomark _)) (pw_or1 (pt_cmpR (show OpR _ (compareOp .NotEq) (rNeD K) from op_neD hr.units) (pe_cal c_spread_image hr hG (by decide) (by rfl) (pa_cons (pv 5) (pa_cons (pv 15) pa_nil))) (pv 16) (nomark _))))) (pss_one (ps_ret pe_bl)) pss_nil)
      (pss_cons (ps_if (pt_cmpR (show OpR _ (compareOp .NotEq) (rNeD K) from op_neD hr.units) (pe_cal c_spread_image hr hG (by decide) (by rfl) (pa_cons (pv 8) (pa_cons (pv 15) pa_nil))) (pe_cal c_spread_image hr hG (by decide) (by rfl) (pa_cons (pv 1) (pa_cons (pe_tup (pa_cons (pe_ix (show IxR _ (rIxT K) from ix_tup) (pv 15) pe_int (fun _ _ => rfl)) (pa_cons (pe_op op_sub (pe_ix (show IxR _ (rIxT K) from ix_tup) (pv 15) pe_int (fun _ _ => rfl)) (pv 7)) (pa_cons (pe_ix (show IxR _ (rIxT K) from ix_tup) (pv 15) pe_int (fun _ _ => rfl)) pa_nil)))) pa_nil))) (nomark _)) (pss_one (ps_ret pe_bl)) pss_nil)
      (pss_cons (ps_set (i := 17) sc_law.nd rfl (by first | exact Or.inl rfl | exact Or.inr rfl) (pe_cal c_spread_image hr hG (by decide) (by rfl) (pa_cons (pe_calN c_shift_map hr hG (by decide) (by rfl) (pa_cons (pv 3) (pa_cons (pe_un un_neg (pv 7)) pa_nil))) (pa_cons (pe_cal c_spread_image hr hG (by decide) (by rfl) (pa_cons (pe_calN c_shift_map hr hG (by decide) (by rfl) (pa_cons (pv 3) (pa_cons (pv 7) pa_nil))) (pa_cons (pv 15) pa_nil))) pa_nil))))
      (pss_cons (ps_if (pt_cmpR (show OpR _ (compareOp .NotEq) (rNeD K) from op_neD hr.units) (pv 17) (pe_cal c_spread_simple hr hG (by decide) (by rfl) (pa_cons (pv 15) pa_nil)) (nomark _)) (pss_one (ps_ret pe_bl)) pss_nil)
      (pss_cons (ps_set (i := 18) sc_law.nd rfl (by first | exact Or.inl rfl | exact Or.inr rfl) (pe_cal c__law_draws hr hG (by decide) (by rfl) (pa_cons (pe_op op_fdiv (pe_callTy call_int1 (by rfl) M_int (by decide +kernel) (pa_cons (pv 10) pa_nil)) pe_int) (pa_cons (pe_op op_rep (pe_lst (pa_cons (pv 3) pa_nil)) (pe_op op_mod (pe_callTy call_int1 (by rfl) M_int (by decide +kernel) (pa_cons (pv 10) pa_nil)) pe_int)) pa_nil))))
      (pss_cons (ps_if (pt_cmpR (show OpR _ (compareOp .NotEq) (rNeD K) from op_neD hr.units) (pe_cal c_apply_word hr hG (by decide) (by rfl) (pa_cons (pv 4) (pa_cons (pv 18) pa_nil))) (pe_cal c_apply_word hr hG (by decide) (by rfl) (pa_cons (pv 2) (pa_cons (pe_cal c_apply_word hr hG (by decide) (by rfl) (pa_cons (pv 1) (pa_cons (pv 18) pa_nil))) pa_nil))) (nomark _)) (pss_one (ps_ret pe_bl)) pss_nil)
      (pss_cons (ps_set (i := 19) sc_law.nd rfl (by first | exact Or.inl rfl | exact Or.inr rfl) (pe_op op_sub (pe_ix (show IxR _ (rIxT K) from ix_tup) (pv 5) pe_int (fun _ _ => rfl)) (pe_ix (show IxR _ (rIxT K) from ix_tup) (pv 4) pe_int (fun _ _ => rfl))))
      (pss_cons (ps_set (i := 20) sc_law.nd rfl (by first | exact Or.inl rfl | exact Or.inr rfl) (pe_op op_sub (pe_op op_sub (pe_ix (show IxR _ (rIxT K) from ix_tup) (pv 4) pe_int (fun _ _ => rfl)) (pe_ix (show IxR _ (rIxT K) from ix_tup) (pv 5) pe_int (fun _ _ => rfl))) (pv 19)))
      (pss_one (ps_if (PW.pt (pw_and (pt_cmpR op_gt (pe_ix (show IxR _ (rIxT K) from ix_tup) (pv 5) pe_int (fun _ _ => rfl)) pe_int (nomark _)) (pw_and (pt_cmpR op_ge (pe_callB (show CallR _ (.builtin "len") (rLen K) from call_len_seq) (by rfl) M_len (by decide +kernel) (pa_cons (pv 18) pa_nil)) (pe_ix (show IxR _ (rIxT K) from ix_tup) (pv 4) pe_int (fun _ _ => rfl)) (nomark _)) (pw_and1 (pt_cmpR (show OpR _ (compareOp .NotEq) (rNeD K) from op_neD hr.units) (pe_cal c_apply_word hr hG (by decide) (by rfl) (pa_cons (pv 5) (pa_cons (pe_slice (show SlR _ (rSlL K) from sl_list) (pv 18) (po_some (pv 19)) (po_some (pe_op op_sub (pe_callB (show CallR _ (.builtin "len") (rLen K) from call_len_seq) (by rfl) M_len (by decide +kernel) (pa_cons (pv 18) pa_nil)) (pv 20)))) pa_nil))) (pe_cal c_apply_word hr hG (by decide) (by rfl) (pa_cons (pv 4) (pa_cons (pv 18) pa_nil))) (nomark _)))))) (pss_one (ps_ret pe_bl)) pss_nil)))))))))))))))))))
    (pss_one (ps_ret pe_bl)))))))))))))), fun rs r h => ?_⟩)
  cases h with
  | mk ns hns =>
    have c0 : ∀ (i : Nat) (ρ : List Sl) (s : Int) (m : MS), ρ[i]? = some (.fz (msC s m)) → EvI K (tOp (rIxT K) (tVar i) (tC (.int 0))) ρ s := fun i ρ s m h => ev_ixT (ds := [.int s, .int m.1, .int (m.2.1 : Int), .list (iL m.2.2)]) (ev_var h) ev_int rfl
    have c1 : ∀ (i : Nat) (ρ : List Sl) (s : Int) (m : MS), ρ[i]? = some (.fz (msC s m)) → EvI K (tOp (rIxT K) (tVar i) (tC (.int 1))) ρ m.1 := fun i ρ s m h => ev_ixT (ds := [.int s, .int m.1, .int (m.2.1 : Int), .list (iL m.2.2)]) (ev_var h) ev_int rfl
    have c2 : ∀ (i : Nat) (ρ : List Sl) (s : Int) (m : MS), ρ[i]? = some (.fz (msC s m)) → EvI K (tOp (rIxT K) (tVar i) (tC (.int 2))) ρ (m.2.1 : Int) := fun i ρ s m h => ev_ixT (ds := [.int s, .int m.1, .int (m.2.1 : Int), .list (iL m.2.2)]) (ev_var h) ev_int rfl
    have cell : ∀ (j : Int) (te : TE) (ρ : List Sl), ρ[0]? = some (.sq (ns.map V.int)) → 0 ≤ j → EvI K te ρ j → EvI K (tCallS (SpR K R__law_cell) (fun _ => E0) (tCons (tVar 0) (tCons te tNil))) ρ (cellAt ns j) := fun j te ρ h0 hj h => ev_callS (ea_consS (ev_varS h0) (ea_cons h ea_nil)) (.mk ns j hj)
    have drw : ∀ (te te2 te3 : TE) (ρ : List Sl) (c s n : Int), 2 ≤ s → s ≤ 4 → 0 ≤ n → n ≤ 1000 → EvI K te ρ c → EvI K te2 ρ s → EvI K te3 ρ n → EvD K (tCallS (SpR K R__law_draws) (fun _ => E0) (tCons te (tCons (tOp rRep (tLst (tCons te2 tNil)) te3) tNil))) ρ (.list (iL (lawDraws c (List.replicate n.toNat s)))) :=
      fun te te2 te3 ρ c s n h1 h2 h3 h4 ha hb hc => EvR.fr (ev_callS (ea_cons ha (ea_cons (EvR.fr (ev_repI hb hc (by omega) (by omega))) ea_nil)) (.mk _ _ (fun l hl => by rw [(List.mem_replicate.mp hl).2]; omega) (by rw [List.length_replicate]; omega)))
    have cmpE : ∀ (te te2 : TE) (ρ : List Sl) (s : Int) (m n : MS), Tm s m → Tm s n → cmpOk s s m n → EvD K te ρ (msC s m) → EvD K te2 ρ (msC s n) → EvR K (tCallS (SpR K (R_composed C_OutOfRange)) (fun _ => E0) (tCons te (tCons te2 tNil))) ρ (.pv (msC s (comp s m n))) := fun te te2 ρ s m n tm tn h hi hj =>
      ev_callS (ea_cons hi (ea_cons hj ea_nil)) (by
        have e := R_composed.mk (C := C_OutOfRange) s s m n tm tn
        unfold cmpR at e
        rw [if_pos h] at e
        exact e)
    have shE : ∀ (te te2 : TE) (ρ : List Sl) (s p : Int), (2 ≤ s ∧ s ≤ 4) → (-100 ≤ p ∧ p ≤ 100) → EvI K te ρ s → EvI K te2 ρ p → EvD K (tCallS (SpR K (R_shift_map C_OutOfRange)) (fun _ => E0) (tCons te (tCons te2 tNil))) ρ (msC s (shM s p)) := fun te te2 ρ s p hs hp ha hb =>
      EvR.frP (ev_callS (ea_cons ha (ea_cons hb ea_nil)) (by
        have r := R_shift_map.mk (C := C_OutOfRange) s p
        unfold shR at r
        rw [if_pos ⟨hs, hp⟩] at r
        exact r))
    have redE : ∀ (te : TE) (ρ : List Sl) (s : Int) (m : MS), Tm s m → (-100 ≤ (nar s m).1 ∧ (nar s m).1 ≤ 100) → EvD K te ρ (msC s m) → EvR K (tCallS (SpR K (R_reduced C_OutOfRange)) (fun _ => E0) (tCons te tNil)) ρ (.pv (msC s (nar s m))) := fun te ρ s m tm h ha => ev_callS (ea_cons ha ea_nil) (R_reduced.val tm h)
    have rim : ∀ (i : Nat) (te : TE) (ρ : List Sl) (s : Int) (m : MS) (row : List Int), Tm s m → (-1000 ≤ m.1 ∧ m.1 ≤ 1000) → 0 < row.length → InR s row → row.length ≤ 10000 → ρ[i]? = some (.fz (msC s m)) → EvD K te ρ (.list (iL row)) → EvD K (tCallS (SpR K R_round_image) (fun _ => E0) (tCons (tVar i) (tCons te tNil))) ρ (.list (iL (roundImage s m.1 m.2.1 m.2.2 row))) :=
      fun i te ρ s m row tb ho h hr hz h0 h1 => EvR.fr (ev_callS (ea_cons (ev_var h0) (ea_cons h1 ea_nil)) (.mk s m.1 m.2.1 m.2.2 row tb ho h hr hz))
    have spi : ∀ (te te2 : TE) (ρ : List Sl) (s : Int) (m : MS) (b st : Int) (cs : List Int), Tm s m → (0 ≤ b ∧ b < s) → InR s cs → cs.length ≤ 40000 → EvD K te ρ (msC s m) → EvD K te2 ρ (spreadD b st cs) → EvR K (tCallS (SpR K R_spread_image) (fun _ => E0) (tCons te (tCons te2 tNil))) ρ (.pv (spImg s m.1 m.2.1 m.2.2 b st cs)) :=
      fun te te2 ρ s m b st cs tb hb hr hz h0 h1 => ev_callS (ea_cons h0 (ea_cons h1 ea_nil)) (.mk s m.1 m.2.1 m.2.2 b st cs tb hb hr hz)
    have apw : ∀ (i : Nat) (te : TE) (ρ : List Sl) (s : Int) (m : MS) (word : List Int), Tm s m → InR s word → word.length ≤ 90000 → ρ[i]? = some (.fz (msC s m)) → EvD K te ρ (.list (iL word)) → EvD K (tCallS (SpR K R_apply_word) (fun _ => E0) (tCons (tVar i) (tCons te tNil))) ρ (.list (iL (lawApply s m.2.1 m.2.2 word))) :=
      fun i te ρ s m word tb hr hz h0 h1 => EvR.fr (ev_callS (ea_cons (ev_var h0) (ea_cons h1 ea_nil)) (.mk s m.1 m.2.1 m.2.2 word tb hr hz))
    show Run K E _ [.sq (ns.map V.int), .no, .no, .no, .no, .no, .no, .no, .no, .no, .no, .no, .no, .no, .no, .no, .no, .no, .no, .no, .no] _
    have mk : ∀ (a b : Int), ∃ (s : Int) (m : MS), lawMapD (cellAt ns a) (cellAt ns b) 70 = msC s m ∧ Tm s m ∧ (-100 ≤ m.1 ∧ m.1 ≤ 100) ∧ s ^ m.2.1 ≤ 70 ∧ m.2.1 ≤ 6 := fun a b => by
      have tb := map_tb (cellAt ns a) (cellAt ns b) (most := 70) (by decide)
      have ho := mpO_ok (cellAt ns a)
      have hwm := mpW_ok (cellAt ns a) (most := 70) (by decide)
      unfold lawMapD
      generalize mpS (cellAt ns a) = s at tb hwm ⊢
      generalize mpO (cellAt ns a) = o at ho ⊢
      generalize mpW (cellAt ns a) 70 = w at tb hwm ⊢
      generalize lawTable (cellAt ns b) s w = t at tb ⊢
      exact ⟨s, (o, w, t), rfl, tb, ho, hwm.2.2, hwm.2.1⟩
    obtain ⟨s, ⟨mo0, mw, mt⟩, e1, tm0, hmo0, h70, h6⟩ := mk 0 1
    have hs : 2 ≤ s ∧ s ≤ 4 := Tb.hs tm0
    refine run_asg (r := .fz (msC s (mo0, mw, mt))) (EvR.is (ev_callS (ea_cons (cell 0 _ _ rfl (by decide) ev_int) (ea_cons (cell 1 _ _ rfl (by decide) ev_int) (ea_cons ev_int ea_nil))) (.mk _ _ 70 (by decide))) (congrArg Sl.fz e1)) ?_
    have a7 := Int.emod_nonneg mo0 (b := 7) (by decide)
    have a7' := Int.emod_lt_of_pos mo0 (b := 7) (by decide)
    refine run_asg (r := .fz (msC s (mo0 % 7 - 3, mw, mt))) (EvR.is (ev_catT (ev_catT (ev_slT (ds := [.int s, .int mo0, .int (mw : Int), .list (iL mt)]) (ev_var rfl) eo_none (eo_some ev_int) (show ¬ (HT.sIx 4 0 none = 0 ∧ HT.sIx 4 4 (some 1) = 4) by decide)) (ev_tup (ds := [.int (mo0 % 7 - 3)]) (ea_cons (ev_i (ev_ic (ev_cb (ea_cons (c1 1 _ s (mo0, mw, mt) rfl) ea_nil) rc_int) ev_int (by decide)) ev_int) ea_nil) (by show 1 ≤ sizeLine; decide)) (fun z => nomatch z) (fun z => nomatch z) (by show 1 + 1 ≤ sizeLine; decide)) (ev_slT (ds := [.int s, .int mo0, .int (mw : Int), .list (iL mt)]) (ev_var rfl) (eo_some ev_int) eo_none (show ¬ (HT.sIx 4 0 (some 2) = 0 ∧ HT.sIx 4 4 none = 4) by decide)) (fun z => nomatch z) (fun z => nomatch z) (by show 2 + 2 ≤ sizeLine; decide)) rfl) ?_
    obtain ⟨m, hm⟩ : ∃ m : MS, (mo0 % 7 - 3, mw, mt) = m := ⟨_, rfl⟩
    have tm : Tm s m := by rw [← hm]; exact tm0
    have hmo : -3 ≤ m.1 ∧ m.1 ≤ 3 := by rw [← hm]; show -3 ≤ mo0 % 7 - 3 ∧ mo0 % 7 - 3 ≤ 3; omega
    have h70 : s ^ m.2.1 ≤ 70 := by rw [← hm]; exact h70
    have h6 : m.2.1 ≤ 6 := by rw [← hm]; exact h6
    have hmw : 1 ≤ m.2.1 := Tb.hw tm
    rw [hm]
    clear hm e1 tm0 hmo0 a7 a7'
    have ok2 := secW_ok hs hmw (show s ^ m.2.1 ≤ 600 by omega) (cellAt ns 2)
    refine run_asg (ev_callS (ea_cons (ev_var rfl) (ea_cons (cell 2 _ _ rfl (by decide) ev_int) (ea_cons (cell 3 _ _ rfl (by decide) ev_int) ea_nil))) (R__law_second.mk s m _ _ tm h70)) ?_
    have b5 := Int.emod_nonneg (cellAt ns 2 / 4) (b := 5) (by decide)
    have b5' := Int.emod_lt_of_pos (cellAt ns 2 / 4) (b := 5) (by decide)
    have tn : Tm s (lawSecond s m.2.1 (cellAt ns 2) (cellAt ns 3)) := table_tb (cell := cellAt ns 3) (w := secW s m.2.1 (cellAt ns 2)) hs ok2.1.1 (by omega)
    have hno : -2 ≤ (lawSecond s m.2.1 (cellAt ns 2) (cellAt ns 3)).1 ∧ (lawSecond s m.2.1 (cellAt ns 2) (cellAt ns 3)).1 ≤ 2 := by
      show -2 ≤ cellAt ns 2 / 4 % 5 - 2 ∧ cellAt ns 2 / 4 % 5 - 2 ≤ 2
      omega
    have hn4 : (lawSecond s m.2.1 (cellAt ns 2) (cellAt ns 3)).2.1 ≤ 4 ∧ s ^ (m.2.1 + (lawSecond s m.2.1 (cellAt ns 2) (cellAt ns 3)).2.1 - 1) ≤ 600 := ⟨ok2.1.2, ok2.2.1⟩
    generalize lawSecond s m.2.1 (cellAt ns 2) (cellAt ns 3) = n at tn hno hn4
    have hnw : 1 ≤ n.2.1 := Tb.hw tn
    refine run_asg (c0 1 _ _ _ rfl) ?_
    have okC : cmpOk s s m n := ⟨rfl, by omega, by omega⟩
    refine run_asg (cmpE _ _ _ s m n tm tn okC (ev_var rfl) (ev_var rfl)) (run_frzP (i := 4) rfl ?_)
    have tc : Tm s (comp s m n) := comp_Tb tm tn (by omega)
    have rc := fun (x : Int → Int) (hx : Row s x) => rv_comp tm tn hx
    have ac := fun (x : Int → Int) (hx : Row s x) (i : Int) => aft_comp tm tn hx i
    have wc := fun (word : List Int) (hw : InR s word) => apply_comp tm tn hw
    have oc : (comp s m n).1 = m.1 + n.1 := rfl
    have cw : (comp s m n).2.1 = m.2.1 + n.2.1 - 1 := rfl
    have ric := fun (row : List Int) (h : 0 < row.length) (hr : InR s row) => round_comp tm tn h hr
    generalize comp s m n = c at tc rc ac wc oc cw ric
    have ok := nar_ok tc
    have qo := nar_offw tc
    rw [oc, cw] at qo
    have hso : -100 ≤ (nar s c).1 ∧ (nar s c).1 ≤ 100 := by
      generalize (nar s c).1 = z at qo ⊢
      omega
    refine run_asg (redE _ _ s c tc hso (ev_var rfl)) (run_frzP (i := 5) rfl ?_)
    have ncut := fun h => nar_cut (m := c) tc h
    have acut := fun (word : List Int) (hw : InR s word) h hl (a r : Nat) hc hr => apply_cut (m := c) tc hw h hl (c := a) (r := r) hc hr
    generalize nar s c = d at ok qo hso ncut acut
    have td : Tm s d := ok.1.tb
    have hdw : 1 ≤ d.2.1 := Tb.hw td
    have dle := ok.1.le
    have rvd := ok.1.rv
    obtain ⟨g, hg⟩ := pow2 tm hmo h70 h6
    have pr2 := fun (row : List Int) (h : 0 < row.length) (hr : InR s row) => pow_round tm h hr hg
    have tg : Tm s g := (pr2 [0] (by decide) (fun c hc => by rw [List.mem_singleton.mp hc]; omega)).1
    have hgo := pow_off 2 hg
    refine run_asg (r := .pv (msC s g)) (ev_callS (ea_cons (ev_var rfl) (ea_cons ev_int ea_nil)) (by
        have r := R_power.mk (C := C_OutOfRange) s m 2 tm
        rw [pwR_val (by decide) hg] at r
        exact r)) (run_frzP (i := 6) rfl ?_)
    have p0 := Int.emod_nonneg (cellAt ns 4) (b := 181) (by decide)
    have p1 := Int.emod_lt_of_pos (cellAt ns 4) (b := 181) (by decide)
    refine run_asg (ev_i (ev_ic (ev_cb (ea_cons (cell 4 _ _ rfl (by decide) ev_int) ea_nil) rc_int) ev_int (by decide)) ev_int) ?_
    obtain ⟨p, hpe⟩ : ∃ p, cellAt ns 4 % 181 - 90 = p := ⟨_, rfl⟩
    have hp : -90 ≤ p ∧ p ≤ 90 := by omega
    show Run K E _ [.sq (ns.map V.int), .fz (msC s m), .fz (msC s n), .fz (.int s), .fz (msC s c), .fz (msC s d), .fz (msC s g), .fz (.int (cellAt ns 4 % 181 - 90)), .no, .no, .no, .no, .no, .no, .no, .no, .no, .no, .no, .no, .no] _
    rw [hpe]
    clear p0 p1 hpe
    have tsh : ∀ q, Tm s (shM s q) := fun q => shM_tb hs q
    have mw1 : 1 + m.2.1 - 1 = m.2.1 := by omega
    have okM : cmpOk s s (shM s p) m := ⟨rfl, by show s ^ (1 + m.2.1 - 1) ≤ 4096; rw [mw1]; omega, by show -100 ≤ p + m.1 ∧ p + m.1 ≤ 100; omega⟩
    have okL : cmpOk s s m (shM s p) := ⟨rfl, by show s ^ (m.2.1 + 1 - 1) ≤ 4096; rw [Nat.add_sub_cancel]; omega, by show -100 ≤ m.1 + p ∧ m.1 + p ≤ 100; omega⟩
    refine run_asg (cmpE _ _ _ s (shM s p) m (tsh p) tm okM (shE _ _ _ s p hs (by omega) (ev_var rfl) (ev_var rfl)) (ev_var rfl)) (run_frzP (i := 8) rfl ?_)
    refine run_asg (cmpE _ _ _ s m (shM s p) tm (tsh p) okL (ev_var rfl) (shE _ _ _ s p hs (by omega) (ev_var rfl) (ev_var rfl))) (run_frzP (i := 9) rfl ?_)
    have tu : Tm s (comp s (shM s p) m) := comp_Tb (tsh p) tm okM.2.1
    have tl : Tm s (comp s m (shM s p)) := comp_Tb tm (tsh p) okL.2.1
    have esw : nar s (comp s (shM s p) m) = nar s (comp s m (shM s p)) := (nar_eq_iff tu tl).mpr fun x hx => sh_swap tm hx
    have ou : (comp s (shM s p) m).1 = p + m.1 := rfl
    have uw : (comp s (shM s p) m).2.1 = m.2.1 := mw1
    have riu := fun (row : List Int) (h : 0 < row.length) (hr : InR s row) => round_comp (tsh p) tm h hr
    have acu := fun (x : Int → Int) (hx : Row s x) (i : Int) => aft_comp (tsh p) tm hx i
    have rcu := fun (x : Int → Int) (hx : Row s x) => rv_comp (tsh p) tm hx
    have qu := nar_offw tu
    have oku := nar_ok tu
    rw [ou, uw] at qu
    have huo : -100 ≤ (nar s (comp s (shM s p) m)).1 ∧ (nar s (comp s (shM s p) m)).1 ≤ 100 := by
      generalize (nar s (comp s (shM s p) m)).1 = z at qu ⊢
      omega
    have xn : Tx 2 17000 (msC s (nar s (comp s (shM s p) m))) := (mapTx oku.1.tb (by omega)).up (Nat.le_refl _) (by have := Tb.hm oku.1.tb; omega)
    refine run_skip (et_test (ev_neD_no (EvR.frP (redE _ _ s _ tu huo (ev_var rfl))) (EvR.is (EvR.frP (redE _ _ s _ tl (by rw [← esw]; exact huo) (ev_var rfl))) (by rw [esw])) xn (by decide))) ?_
    clear xn huo qu oku esw
    generalize comp s m (shM s p) = l at tl
    generalize comp s (shM s p) m = u at tu ou uw riu acu rcu
    have huw : 1 ≤ u.2.1 := Tb.hw tu
    have hcw : 1 ≤ c.2.1 := Tb.hw tc
    refine run_seq (M := fun r => r = [.sq (ns.map V.int), .fz (msC s m), .fz (msC s n), .fz (.int s), .fz (msC s c), .fz (msC s d), .fz (msC s g), .fz (.int p), .fz (msC s u), .fz (msC s l), .no, .no, .no, .no, .no, .no, .no, .no, .no, .no, .no])
      (s_forL [10, 11, 12, 13, 14, 15, 16, 17, 18, 19, 20] (ds := iL ([0, 1] ++ cutI ns (some 5) (some 20))) ?_ (fun i r => r = [.sq (ns.map V.int), .fz (msC s m), .fz (msC s n), .fz (.int s), .fz (msC s c), .fz (msC s d), .fz (msC s g), .fz (.int p), .fz (msC s u), .fz (msC s l), .no, .no, .no, .no, .no, .no, .no, .no, .no, .no, .no]) rfl ?_ (fun r h => h)) (fun r h => by subst h; exact s_ret ev_bl rfl)
    · refine EvR.fr (EvR.is (ev_cat (EvR.fr (ev_lst (ds := iL [0, 1]) (ea_cons ev_int (ea_cons ev_int ea_nil)) (by show 2 ≤ sizeLine; decide))) (EvR.fr (ev_slS (ev_varS rfl) (eo_some ev_int) (eo_some ev_int))) ?_) (by rw [iL_app]))
      rw [iL_len, iL_len]
      refine small100' ?_
      have : (cutI ns (some 5) (some 20)).length ≤ ns.length := by unfold cutI; rw [List.length_take, List.length_drop]; omega
      show 2 + _ ≤ 100000
      omega
    rintro i dd r hd rfl
    obtain ⟨k, _, rfl⟩ := iL_get hd
    clear hd
    show Run K E _ [.sq (ns.map V.int), .fz (msC s m), .fz (msC s n), .fz (.int s), .fz (msC s c), .fz (msC s d), .fz (msC s g), .fz (.int p), .fz (msC s u), .fz (msC s l), .fz (.int k), .no, .no, .no, .no, .no, .no, .no, .no, .no, .no] _
    have k0 := Int.emod_nonneg k (b := 13) (by decide)
    have k1 := Int.emod_lt_of_pos k (b := 13) (by decide)
    refine run_asg (r := .fz (.list (iL (lawDraws k (List.replicate (1 + k % 13).toNat s))))) (drw _ _ _ _ k s (1 + k % 13) hs.1 hs.2 (by omega) (by omega) (ev_var rfl) (ev_var rfl) (ev_i ev_int (ev_ic (ev_cb (ea_cons (ev_var rfl) ea_nil) rc_int) ev_int (by decide)))) ?_
    have hr : InR s (lawDraws k (List.replicate (1 + k % 13).toNat s)) := draws_rep _ (by omega)
    have rl : (lawDraws k (List.replicate (1 + k % 13).toNat s)).length = (1 + k % 13).toNat := by rw [draws_len, List.length_replicate]
    generalize lawDraws k (List.replicate (1 + k % 13).toNat s) = row at hr rl
    have hpos : 0 < row.length := by omega
    have r1l : (roundImage s m.1 m.2.1 m.2.2 row).length = row.length := roundImage_len ..
    have r1i : InR s (roundImage s m.1 m.2.1 m.2.2 row) := roundImage_in tm hpos hr
    have e2 := ric row hpos hr
    have e3 := round_rv (m := d) (n := c) hpos hr rvd
    have cin : InR s (roundImage s c.1 c.2.1 c.2.2 row) := roundImage_in tc hpos hr
    refine run_asg (r := .fz (.list (iL (roundImage s c.1 c.2.1 c.2.2 row)))) (EvR.is (rim 2 _ _ s n _ tn (by omega) (by omega) r1i (by omega) rfl (rim 1 _ _ s m row tm (by omega) hpos hr (by omega) rfl (ev_var rfl))) (by rw [e2])) ?_
    refine run_skip (et_or_no (et_test (ev_neD_no (rim 4 _ _ s c row tc (by omega) hpos hr (by omega) rfl (ev_var rfl)) (ev_var rfl) (wordTx hs.2 cin) (by decide))) (et_test (ev_neD_no (EvR.is (rim 5 _ _ s d row td (by omega) hpos hr (by omega) rfl (ev_var rfl)) (by rw [e3])) (ev_var rfl) (wordTx hs.2 cin) (by decide)))) ?_
    have e4 : roundImage s g.1 g.2.1 g.2.2 row = roundImage s m.1 m.2.1 m.2.2 (roundImage s m.1 m.2.1 m.2.2 row) := (pr2 row hpos hr).2
    refine run_skip (et_test (ev_neD_no (rim 6 _ _ s g row tg (by omega) hpos hr (by omega) rfl (ev_var rfl)) (EvR.is (rim 1 _ _ s m _ tm (by omega) (by omega) r1i (by omega) rfl (rim 1 _ _ s m row tm (by omega) hpos hr (by omega) rfl (ev_var rfl))) (by rw [e4])) (wordTx hs.2 (roundImage_in tg hpos hr)) (by decide))) ?_
    refine run_asg (r := .fz (.int (row.length : Int))) ((ev_cb (ea_cons (ev_var rfl) ea_nil) rc_len).int_is (by rw [iL_len])) ?_
    have e5 := riu row hpos hr
    have e6 : roundImage s (shM s p).1 (shM s p).2.1 (shM s p).2.2 row = (List.range row.length).map fun (k : Nat) => rowAt row ((k : Int) + p) := roundSh hpos hr
    rw [e6] at e5
    have shl : ((List.range row.length).map fun (k : Nat) => rowAt row ((k : Int) + p)).length = row.length := by rw [List.length_map, List.length_range]
    have shi : InR s ((List.range row.length).map fun (k : Nat) => rowAt row ((k : Int) + p)) := inR_rangeMap fun k _ => rowAt_in hpos hr _
    refine run_skip (et_test (ev_neD_no (rim 8 _ _ s u row tu (by omega) hpos hr (by omega) rfl (ev_var rfl)) (EvR.is (rim 1 _ _ s m _ tm (by omega) (by omega) shi (by omega) rfl (EvR.fr (ev_lcR1 (m := (row.length : Int)) (es := iL ((List.range row.length).map fun (k : Nat) => rowAt row ((k : Int) + p))) (ea_cons (ev_var rfl) ea_nil) (by omega) (by rw [iL_len, shl]; omega) (small100' (by rw [iL_len, shl]; omega)) fun j e hj he => ?_))) (by rw [e5])) (wordTx hs.2 (roundImage_in tu hpos hr)) (by decide))) ?_
    · obtain ⟨hj2, rfl⟩ := rangeMap_get he
      have ix := rowAt_idx hpos ((j : Int) + p)
      exact ev_ixL (i := ((j : Int) + p) % (row.length : Int)) (ev_var rfl) (ev_ic (ev_cb (ea_cons (ev_i (ev_var rfl) (ev_var rfl)) ea_nil) rc_int) (ev_var rfl) (show 0 < (row.length : Int) by omega)) (atN ix.1 (by omega))
    refine run_wk [11, 12, 13, 14] ?_
    show Run K E _ [.sq (ns.map V.int), .fz (msC s m), .fz (msC s n), .fz (.int s), .fz (msC s c), .fz (msC s d), .fz (msC s g), .fz (.int p), .fz (msC s u), .fz (msC s l), .fz (.int k), .no, .no, .no, .no, .no, .no, .no, .no, .no, .no] _
    have so := spC_ok k hs
    have sb := (spD_ok k hs).1
    have sS := spS_ok k hs
    refine run_asg (ev_callS (ea_cons (ev_var rfl) (ea_cons (ev_var rfl) ea_nil)) (R__law_spread.mk k s hs)) ?_
    have sb : 0 ≤ spB k s ∧ spB k s < s := sb
    generalize spB k s = b at sb
    generalize spS k s = st at sS
    generalize spC k s = cs at so
    have hx := spRow sb so.2 st
    have hk := fun (v : Int) => (fun j => (sb : 0 ≤ b ∧ b < s) : Row s fun _ => b)
    have hk : Row s fun _ => b := fun j => sb
    -- the image of the spread row under a map
    have img := fun (m : MS) (hw : 1 ≤ m.2.1) => img_is (s := s) (m := m) (b := b) (st := st) (cells := cs) hw
    obtain ⟨b1, s1, x1, f1, hb1, hc1, hl1, hi1, hq1⟩ := img m hmw
    have hx1i : InR s x1 := fun z hz => imgCells_in tm sb so.2 z (hi1 z hz)
    have hb1i : 0 ≤ b1 ∧ b1 < s := by rw [hb1]; exact rv_in tm hk
    obtain ⟨b2, s2, x2, f2, hb2, hc2, hl2, hi2, hq2⟩ := img c hcw
    have hx2i : InR s x2 := fun z hz => imgCells_in tc sb so.2 z (hi2 z hz)
    have hb2i : 0 ≤ b2 ∧ b2 < s := by rw [hb2]; exact rv_in tc hk
    have q2 := hq2 30000000 (by decide) (by omega)
    have t2 : Tx 2 (x2.length * 4 + 60) (spreadD b2 s2 x2) := spTx hs.2 hb2i (by omega) hx2i
    have g1 : spImg s n.1 n.2.1 n.2.2 b1 s1 x1 = spImg s c.1 c.2.1 c.2.2 b st cs := spImg_ext (m := n) (n := c) hnw hcw (by rw [hb1, rc _ hk]; rfl) fun i => by rw [aft_congr (m := n) hc1, ac _ hx]
    have g2 : spImg s d.1 d.2.1 d.2.2 b st cs = spImg s c.1 c.2.1 c.2.2 b st cs := spImg_ext (m := d) (n := c) hdw hcw (rvd _ hk) fun i => aft_rv rvd hx i
    refine run_asg (r := .pv (spreadD b2 s2 x2)) (EvR.is (spi _ _ _ s n b1 s1 x1 tn hb1i hx1i (by omega) (ev_var rfl) (EvR.is (EvR.frP (spi _ _ _ s m b st cs tm sb so.2 (by omega) (ev_var rfl) (ev_var rfl))) (by rw [f1]))) (by rw [g1, f2])) (run_frzP (i := 16) rfl ?_)
    refine run_skip (et_or_no (et_test (ev_neD_no (EvR.is (EvR.frP (spi _ _ _ s c b st cs tc sb so.2 (by omega) (ev_var rfl) (ev_var rfl))) (by rw [f2])) (ev_var rfl) t2 (by decide))) (et_test (ev_neD_no (EvR.is (EvR.frP (spi _ _ _ s d b st cs td sb so.2 (by omega) (ev_var rfl) (ev_var rfl))) (by rw [g2, f2])) (ev_var rfl) t2 (by decide)))) ?_
    have w0 : ∀ ρ : List Sl, ρ[15]? = some (.fz (spreadD b st cs)) → EvI K (tOp (rIxT K) (tVar 15) (tC (.int 0))) ρ b := fun ρ h => ev_ixT (ds := [.int b, .int st, .list (iL cs)]) (ev_var h) ev_int rfl
    have w1 : ∀ ρ : List Sl, ρ[15]? = some (.fz (spreadD b st cs)) → EvI K (tOp (rIxT K) (tVar 15) (tC (.int 1))) ρ st := fun ρ h => ev_ixT (ds := [.int b, .int st, .list (iL cs)]) (ev_var h) ev_int rfl
    have w2 : ∀ ρ : List Sl, ρ[15]? = some (.fz (spreadD b st cs)) → EvD K (tOp (rIxT K) (tVar 15) (tC (.int 2))) ρ (.list (iL cs)) := fun ρ h => ev_ixT (ds := [.int b, .int st, .list (iL cs)]) (ev_var h) ev_int rfl
    obtain ⟨b3, s3, x3, f3, hb3, hc3, hl3, hi3, hq3⟩ := img u huw
    have hx3i : InR s x3 := fun z hz => imgCells_in tu sb so.2 z (hi3 z hz)
    have hb3i : 0 ≤ b3 ∧ b3 < s := by rw [hb3]; exact rv_in tu hk
    have q3 := hq3 30000000 (by decide) (by omega)
    have t3 : Tx 2 (x3.length * 4 + 60) (spreadD b3 s3 x3) := spTx hs.2 hb3i (by omega) hx3i
    have shk : ∀ q, (rv s (shM s q) fun _ => b) = b := fun q => sh_rv hk
    have g3 : spImg s m.1 m.2.1 m.2.2 b (st - p) cs = spImg s u.1 u.2.1 u.2.2 b st cs := spImg_ext (m := m) (n := u) hmw huw (by
        rw [rcu _ hk]
        congr 1
        funext j
        exact (shk p).symm) fun i => by
      rw [acu _ hx]
      refine aft_congr (fun j => ?_) i
      rw [spCell_shift, aft_sh hx]
    refine run_skip (et_test (ev_neD_no (EvR.is (EvR.frP (spi _ _ _ s u b st cs tu sb so.2 (by omega) (ev_var rfl) (ev_var rfl))) (by rw [f3])) (EvR.is (EvR.frP (spi _ _ _ s m b (st - p) cs tm sb so.2 (by omega) (ev_var rfl) (ev_tup (ds := [.int b, .int (st - p), .list (iL cs)]) (ea_cons (w0 _ rfl) (ea_cons (ev_i (w1 _ rfl) (ev_var rfl)) (ea_cons (w2 _ rfl) ea_nil))) (by show 3 ≤ sizeLine; decide)))) (by rw [g3, f3])) t3 (by decide))) ?_
    have hp1 : 1 ≤ (shM s p).2.1 := Nat.le_refl 1
    obtain ⟨b4, s4, x4, f4, hb4, hc4, hl4, hi4, hq4⟩ := img (shM s p) hp1
    have hb4e : b4 = b := hb4.trans (shk p)
    subst hb4e
    have hx4i : InR s x4 := fun z hz => imgCells_in (tsh p) sb so.2 z (hi4 z hz)
    have hl4 : x4.length ≤ cs.length + 1 := hl4
    have g4 : spImg s (shM s (-p)).1 (shM s (-p)).2.1 (shM s (-p)).2.2 b4 s4 x4 = spSimple b4 st cs := by
      have k1 : ∀ i, spCell (spNew s (shM s (-p)).2.1 (shM s (-p)).2.2 b4) (s4 - (shM s (-p)).1 - ((shM s (-p)).2.1 : Int) + 1) (spImgCells s (shM s (-p)).2.1 (shM s (-p)).2.2 b4 x4) i = aft s (shM s (-p)) (spCell b4 s4 x4) i := fun i => spImg_cell (m := shM s (-p)) (Nat.le_refl 1) i
      have kb : spNew s (shM s (-p)).2.1 (shM s (-p)).2.2 b4 = b4 := by rw [spNew_rv]; exact shk (-p)
      unfold spImg
      rw [kb] at k1 ⊢
      refine spSimple_congr fun i => ?_
      rw [k1, aft_sh (spRow sb hx4i s4), hc4, aft_sh hx]
      congr 1; omega
    have t4 : Tx 2 ((spBody b4 cs).length * 4 + 60) (spSimple b4 st cs) := spTx hs.2 sb (by have := spSt_ok (b := b4) (cells := cs) (st := st) (m := 30000000) (by decide) (by omega); omega) (spBody_in so.2)
    refine run_asg (r := .pv (spSimple b4 st cs)) (EvR.is (spi _ _ _ s (shM s (-p)) b4 s4 x4 (tsh (-p)) sb hx4i (by omega) (shE _ _ _ s (-p) hs (by omega) (ev_var rfl) (ev_neg (ev_var rfl))) (EvR.is (EvR.frP (spi _ _ _ s (shM s p) b4 st cs (tsh p) sb so.2 (by omega) (shE _ _ _ s p hs (by omega) (ev_var rfl) (ev_var rfl)) (ev_var rfl))) (by rw [f4]))) (by rw [g4])) (run_frzP (i := 17) rfl ?_)
    refine run_skip (et_test (ev_neD_no (ev_var rfl) (EvR.frP (ev_callS (ea_cons (ev_var rfl) ea_nil) (R_spread_simple.mk b4 st cs (by omega)))) t4 (by decide))) ?_
    refine run_wk [15, 16, 17] ?_
    show Run K E _ [.sq (ns.map V.int), .fz (msC s m), .fz (msC s n), .fz (.int s), .fz (msC s c), .fz (msC s d), .fz (msC s g), .fz (.int p), .fz (msC s u), .fz (msC s l), .fz (.int k), .no, .no, .no, .no, .no, .no, .no, .no, .no, .no] _
    have k2 := Int.emod_nonneg k (b := 17) (by decide)
    have k3 := Int.emod_lt_of_pos k (b := 17) (by decide)
    refine run_asg (r := .fz (.list (iL (lawDraws (k / 3) (List.replicate (k % 17).toNat s))))) (drw _ _ _ _ (k / 3) s (k % 17) hs.1 hs.2 (by omega) (by omega) (ev_ic (ev_cb (ea_cons (ev_var rfl) ea_nil) rc_int) ev_int ⟨by decide, by decide⟩) (ev_var rfl) (ev_ic (ev_cb (ea_cons (ev_var rfl) ea_nil) rc_int) ev_int (by decide))) ?_
    have hwi : InR s (lawDraws (k / 3) (List.replicate (k % 17).toNat s)) := draws_rep _ (by omega)
    have wl : (lawDraws (k / 3) (List.replicate (k % 17).toNat s)).length = (k % 17).toNat := by rw [draws_len, List.length_replicate]
    generalize lawDraws (k / 3) (List.replicate (k % 17).toNat s) = word at hwi wl
    have w1i : InR s (lawApply s m.2.1 m.2.2 word) := lawApply_in tm hwi
    have w1l : (lawApply s m.2.1 m.2.2 word).length = word.length + 1 - m.2.1 := lawApply_len ..
    have wci : InR s (lawApply s c.2.1 c.2.2 word) := lawApply_in tc hwi
    refine run_skip (et_test (ev_neD_no (apw 4 _ _ s c word tc hwi (by omega) rfl (ev_var rfl)) (EvR.is (apw 2 _ _ s n _ tn w1i (by omega) rfl (apw 1 _ _ s m word tm hwi (by omega) rfl (ev_var rfl))) (by rw [wc word hwi])) (wordTx hs.2 wci) (by decide))) ?_
    refine run_asg (r := .fz (.int (d.1 - c.1))) (ev_i (c1 5 _ s d rfl) (c1 4 _ s c rfl)) ?_
    refine run_asg (r := .fz (.int ((c.2.1 : Int) - (d.2.1 : Int) - (d.1 - c.1)))) (ev_i (ev_i (c2 4 _ s c rfl) (c2 5 _ s d rfl)) (ev_var rfl)) ?_
    refine s_skip (et_is (et_and (a := decide (1 < (d.2.1 : Int))) (b := false) (et_test (ev_b (a := (d.2.1 : Int)) (b := 1) (c2 5 _ s d rfl) ev_int)) fun h1 => et_is (et_and (a := decide ((c.2.1 : Int) ≤ (word.length : Int))) (b := false) (et_test (ev_b (a := (word.length : Int)) (b := (c.2.1 : Int)) (EvR.int_is (j := (word.length : Int)) (ev_cb (ea_cons (ev_var (d := .list (iL word)) rfl) ea_nil) rc_len) (by rw [iL_len])) (c2 4 _ s c rfl))) fun h2 => ?_) (Bool.and_false _)) (Bool.and_false _)) rfl
    have h1 := of_decide_eq_true h1
    have h2 := of_decide_eq_true h2
    have nc := ncut (by omega)
    obtain ⟨a, ha⟩ : ∃ a : Nat, d.1 - c.1 = (a : Int) := ⟨(d.1 - c.1).toNat, by omega⟩
    obtain ⟨r, hre⟩ : ∃ r : Nat, (c.2.1 : Int) - (d.2.1 : Int) - (a : Int) = (r : Int) := ⟨((c.2.1 : Int) - (d.2.1 : Int) - (a : Int)).toNat, by omega⟩
    have ec := acut word hwi (by omega) (by omega) a r ha hre
    have wcut : InR s ((word.drop a).take (word.length - r - a)) := (hwi.drop _).take _
    refine et_test (ev_neD_no (EvR.is (apw 5 _ _ s d _ td wcut (by rw [List.length_take]; omega) rfl (EvR.fr (EvR.is (ev_sl (lo := some (a : Int)) (hi := some ((word.length - r : Nat) : Int)) (ev_var rfl) (eo_some ((ev_var rfl).int_is ha)) (eo_some (EvR.int_is (ev_i ((ev_cb (ea_cons (ev_var rfl) ea_nil) rc_len).int_is (by rw [iL_len])) (ev_var rfl)) (by omega)))) (by rw [iL_cut, cut_nat])))) (by rw [ec])) (apw 4 _ _ s c word tc hwi (by omega) rfl (ev_var rfl)) (wordTx hs.2 wci) (by decide))
end
theorem all_mk {l : PySem.W.OpenLaw} {w : World} {K : PySem.W.Frag} {h : Heap} {mg : Str → Option Value} {fa : Addr} (X : K.In h) (G : h.Ns mainGlobals mg) (hfa : mg "law" = some (.ref fa))
    {f0 : Addr} {od0 an0 : Option Addr} {sl0 : Array (Option Value)} {oc0 kV0 dc0 pm0 cd0 ct0 : Value}
    {f1 : Addr} {od1 an1 : Option Addr} {sl1 : Array (Option Value)} {oc1 kV1 dc1 pm1 cd1 ct1 : Value}
    {f2 : Addr} {od2 an2 : Option Addr} {sl2 : Array (Option Value)} {oc2 kV2 dc2 pm2 cd2 ct2 : Value}
    {f3 : Addr} {od3 an3 : Option Addr} {sl3 : Array (Option Value)} {oc3 kV3 dc3 pm3 cd3 ct3 : Value}
    {f4 : Addr} {od4 an4 : Option Addr} {sl4 : Array (Option Value)} {oc4 kV4 dc4 pm4 cd4 ct4 : Value}
    {f5 : Addr} {od5 an5 : Option Addr} {sl5 : Array (Option Value)} {oc5 kV5 dc5 pm5 cd5 ct5 : Value}
    {f6 : Addr} {od6 an6 : Option Addr} {sl6 : Array (Option Value)} {oc6 kV6 dc6 pm6 cd6 ct6 : Value}
    {f7 : Addr} {od7 an7 : Option Addr} {sl7 : Array (Option Value)} {oc7 kV7 dc7 pm7 cd7 ct7 : Value}
    {f8 : Addr} {od8 an8 : Option Addr} {sl8 : Array (Option Value)} {oc8 kV8 dc8 pm8 cd8 ct8 : Value}
    {f9 : Addr} {od9 an9 : Option Addr} {sl9 : Array (Option Value)} {oc9 kV9 dc9 pm9 cd9 ct9 : Value}
    {f10 : Addr} {od10 an10 : Option Addr} {sl10 : Array (Option Value)} {oc10 kV10 dc10 pm10 cd10 ct10 : Value}
    {f11 : Addr} {od11 an11 : Option Addr} {sl11 : Array (Option Value)} {oc11 kV11 dc11 pm11 cd11 ct11 : Value}
    {f12 : Addr} {od12 an12 : Option Addr} {sl12 : Array (Option Value)} {oc12 kV12 dc12 pm12 cd12 ct12 : Value}
    {f13 : Addr} {od13 an13 : Option Addr} {sl13 : Array (Option Value)} {oc13 kV13 dc13 pm13 cd13 ct13 : Value}
    {f14 : Addr} {od14 an14 : Option Addr} {sl14 : Array (Option Value)} {oc14 kV14 dc14 pm14 cd14 ct14 : Value}
    {f15 : Addr} {od15 an15 : Option Addr} {sl15 : Array (Option Value)} {oc15 kV15 dc15 pm15 cd15 ct15 : Value}
    {f16 : Addr} {od16 an16 : Option Addr} {sl16 : Array (Option Value)} {oc16 kV16 dc16 pm16 cd16 ct16 : Value}
    {f17 : Addr} {od17 an17 : Option Addr} {sl17 : Array (Option Value)} {oc17 kV17 dc17 pm17 cd17 ct17 : Value}
    {f18 : Addr} {od18 an18 : Option Addr} {sl18 : Array (Option Value)} {oc18 kV18 dc18 pm18 cd18 ct18 : Value}
    {f19 : Addr} {od19 an19 : Option Addr} {sl19 : Array (Option Value)} {oc19 kV19 dc19 pm19 cd19 ct19 : Value}
    {f20 : Addr} {od20 an20 : Option Addr} {sl20 : Array (Option Value)} {oc20 kV20 dc20 pm20 cd20 ct20 : Value}
    {f21 : Addr} {od21 an21 : Option Addr} {sl21 : Array (Option Value)} {oc21 kV21 dc21 pm21 cd21 ct21 : Value}
    {f22 : Addr} {od22 an22 : Option Addr} {sl22 : Array (Option Value)} {oc22 kV22 dc22 pm22 cd22 ct22 : Value}
    {f23 : Addr} {od23 an23 : Option Addr} {sl23 : Array (Option Value)} {oc23 kV23 dc23 pm23 cd23 ct23 : Value}
    {f24 : Addr} {od24 an24 : Option Addr} {sl24 : Array (Option Value)} {oc24 kV24 dc24 pm24 cd24 ct24 : Value}
    {f25 : Addr} {od25 an25 : Option Addr} {sl25 : Array (Option Value)} {oc25 kV25 dc25 pm25 cd25 ct25 : Value}
    {f26 : Addr} {od26 an26 : Option Addr} {sl26 : Array (Option Value)} {oc26 kV26 dc26 pm26 cd26 ct26 : Value}
    {tk_LEAST_SIZE : Tok}
    {tk_MOST_CELLS : Tok}
    {tk_MOST_OFFSET : Tok}
    {tk_MOST_SIZE : Tok}
    {C_OutOfRange : Addr}
    (a0 : PySem.W.nsIn K mainGlobals "_law_draws" = some (some (.ref f0)))
    (l0 : K.lookup f0 = some ⟨oc0, od0, .func (PySem.W.fnOf "_law_draws" "_law_draws" (defArgs s__law_draws) (defBody s__law_draws) (defScope s__law_draws) .none kV0 dc0 pm0 an0 cd0 ct0), sl0⟩)
    (c0 : PySem.W.codeIn K cd0 "_law_draws" = true)
    (k0 : PySem.W.keepIn K (.ref f0) = true)
    (a1 : PySem.W.nsIn K mainGlobals "_law_power" = some (some (.ref f1)))
    (l1 : K.lookup f1 = some ⟨oc1, od1, .func (PySem.W.fnOf "_law_power" "_law_power" (defArgs s__law_power) (defBody s__law_power) (defScope s__law_power) .none kV1 dc1 pm1 an1 cd1 ct1), sl1⟩)
    (c1 : PySem.W.codeIn K cd1 "_law_power" = true)
    (k1 : PySem.W.keepIn K (.ref f1) = true)
    (a2 : PySem.W.nsIn K mainGlobals "_law_digits" = some (some (.ref f2)))
    (l2 : K.lookup f2 = some ⟨oc2, od2, .func (PySem.W.fnOf "_law_digits" "_law_digits" (defArgs s__law_digits) (defBody s__law_digits) (defScope s__law_digits) .none kV2 dc2 pm2 an2 cd2 ct2), sl2⟩)
    (c2 : PySem.W.codeIn K cd2 "_law_digits" = true)
    (k2 : PySem.W.keepIn K (.ref f2) = true)
    (a3 : PySem.W.nsIn K mainGlobals "_law_index" = some (some (.ref f3)))
    (l3 : K.lookup f3 = some ⟨oc3, od3, .func (PySem.W.fnOf "_law_index" "_law_index" (defArgs s__law_index) (defBody s__law_index) (defScope s__law_index) .none kV3 dc3 pm3 an3 cd3 ct3), sl3⟩)
    (c3 : PySem.W.codeIn K cd3 "_law_index" = true)
    (k3 : PySem.W.keepIn K (.ref f3) = true)
    (a4 : PySem.W.nsIn K mainGlobals "_law_table" = some (some (.ref f4)))
    (l4 : K.lookup f4 = some ⟨oc4, od4, .func (PySem.W.fnOf "_law_table" "_law_table" (defArgs s__law_table) (defBody s__law_table) (defScope s__law_table) .none kV4 dc4 pm4 an4 cd4 ct4), sl4⟩)
    (c4 : PySem.W.codeIn K cd4 "_law_table" = true)
    (k4 : PySem.W.keepIn K (.ref f4) = true)
    (a5 : PySem.W.nsIn K mainGlobals "_law_map" = some (some (.ref f5)))
    (l5 : K.lookup f5 = some ⟨oc5, od5, .func (PySem.W.fnOf "_law_map" "_law_map" (defArgs s__law_map) (defBody s__law_map) (defScope s__law_map) .none kV5 dc5 pm5 an5 cd5 ct5), sl5⟩)
    (c5 : PySem.W.codeIn K cd5 "_law_map" = true)
    (k5 : PySem.W.keepIn K (.ref f5) = true)
    (a6 : PySem.W.nsIn K mainGlobals "_law_cell" = some (some (.ref f6)))
    (l6 : K.lookup f6 = some ⟨oc6, od6, .func (PySem.W.fnOf "_law_cell" "_law_cell" (defArgs s__law_cell) (defBody s__law_cell) (defScope s__law_cell) .none kV6 dc6 pm6 an6 cd6 ct6), sl6⟩)
    (c6 : PySem.W.codeIn K cd6 "_law_cell" = true)
    (k6 : PySem.W.keepIn K (.ref f6) = true)
    (a7 : PySem.W.nsIn K mainGlobals "_law_second" = some (some (.ref f7)))
    (l7 : K.lookup f7 = some ⟨oc7, od7, .func (PySem.W.fnOf "_law_second" "_law_second" (defArgs s__law_second) (defBody s__law_second) (defScope s__law_second) .none kV7 dc7 pm7 an7 cd7 ct7), sl7⟩)
    (c7 : PySem.W.codeIn K cd7 "_law_second" = true)
    (k7 : PySem.W.keepIn K (.ref f7) = true)
    (a8 : PySem.W.nsIn K mainGlobals "offset_fits" = some (some (.ref f8)))
    (l8 : K.lookup f8 = some ⟨oc8, od8, .func (PySem.W.fnOf "offset_fits" "offset_fits" (defArgs s_offset_fits) (defBody s_offset_fits) (defScope s_offset_fits) .none kV8 dc8 pm8 an8 cd8 ct8), sl8⟩)
    (c8 : PySem.W.codeIn K cd8 "offset_fits" = true)
    (k8 : PySem.W.keepIn K (.ref f8) = true)
    (a9 : PySem.W.nsIn K mainGlobals "image_numbers" = some (some (.ref f9)))
    (l9 : K.lookup f9 = some ⟨oc9, od9, .func (PySem.W.fnOf "image_numbers" "image_numbers" (defArgs s_image_numbers) (defBody s_image_numbers) (defScope s_image_numbers) .none kV9 dc9 pm9 an9 cd9 ct9), sl9⟩)
    (c9 : PySem.W.codeIn K cd9 "image_numbers" = true)
    (k9 : PySem.W.keepIn K (.ref f9) = true)
    (a10 : PySem.W.nsIn K mainGlobals "composed" = some (some (.ref f10)))
    (l10 : K.lookup f10 = some ⟨oc10, od10, .func (PySem.W.fnOf "composed" "composed" (defArgs s_composed) (defBody s_composed) (defScope s_composed) .none kV10 dc10 pm10 an10 cd10 ct10), sl10⟩)
    (c10 : PySem.W.codeIn K cd10 "composed" = true)
    (k10 : PySem.W.keepIn K (.ref f10) = true)
    (a11 : PySem.W.nsIn K mainGlobals "ignores_first" = some (some (.ref f11)))
    (l11 : K.lookup f11 = some ⟨oc11, od11, .func (PySem.W.fnOf "ignores_first" "ignores_first" (defArgs s_ignores_first) (defBody s_ignores_first) (defScope s_ignores_first) .none kV11 dc11 pm11 an11 cd11 ct11), sl11⟩)
    (c11 : PySem.W.codeIn K cd11 "ignores_first" = true)
    (k11 : PySem.W.keepIn K (.ref f11) = true)
    (a12 : PySem.W.nsIn K mainGlobals "ignores_last" = some (some (.ref f12)))
    (l12 : K.lookup f12 = some ⟨oc12, od12, .func (PySem.W.fnOf "ignores_last" "ignores_last" (defArgs s_ignores_last) (defBody s_ignores_last) (defScope s_ignores_last) .none kV12 dc12 pm12 an12 cd12 ct12), sl12⟩)
    (c12 : PySem.W.codeIn K cd12 "ignores_last" = true)
    (k12 : PySem.W.keepIn K (.ref f12) = true)
    (a13 : PySem.W.nsIn K mainGlobals "narrowed" = some (some (.ref f13)))
    (l13 : K.lookup f13 = some ⟨oc13, od13, .func (PySem.W.fnOf "narrowed" "narrowed" (defArgs s_narrowed) (defBody s_narrowed) (defScope s_narrowed) .none kV13 dc13 pm13 an13 cd13 ct13), sl13⟩)
    (c13 : PySem.W.codeIn K cd13 "narrowed" = true)
    (k13 : PySem.W.keepIn K (.ref f13) = true)
    (a14 : PySem.W.nsIn K mainGlobals "reduced" = some (some (.ref f14)))
    (l14 : K.lookup f14 = some ⟨oc14, od14, .func (PySem.W.fnOf "reduced" "reduced" (defArgs s_reduced) (defBody s_reduced) (defScope s_reduced) .none kV14 dc14 pm14 an14 cd14 ct14), sl14⟩)
    (c14 : PySem.W.codeIn K cd14 "reduced" = true)
    (k14 : PySem.W.keepIn K (.ref f14) = true)
    (a15 : PySem.W.nsIn K mainGlobals "size_fits" = some (some (.ref f15)))
    (l15 : K.lookup f15 = some ⟨oc15, od15, .func (PySem.W.fnOf "size_fits" "size_fits" (defArgs s_size_fits) (defBody s_size_fits) (defScope s_size_fits) .none kV15 dc15 pm15 an15 cd15 ct15), sl15⟩)
    (c15 : PySem.W.codeIn K cd15 "size_fits" = true)
    (k15 : PySem.W.keepIn K (.ref f15) = true)
    (a16 : PySem.W.nsIn K mainGlobals "shift_map" = some (some (.ref f16)))
    (l16 : K.lookup f16 = some ⟨oc16, od16, .func (PySem.W.fnOf "shift_map" "shift_map" (defArgs s_shift_map) (defBody s_shift_map) (defScope s_shift_map) .none kV16 dc16 pm16 an16 cd16 ct16), sl16⟩)
    (c16 : PySem.W.codeIn K cd16 "shift_map" = true)
    (k16 : PySem.W.keepIn K (.ref f16) = true)
    (a17 : PySem.W.nsIn K mainGlobals "power" = some (some (.ref f17)))
    (l17 : K.lookup f17 = some ⟨oc17, od17, .func (PySem.W.fnOf "power" "power" (defArgs s_power) (defBody s_power) (defScope s_power) .none kV17 dc17 pm17 an17 cd17 ct17), sl17⟩)
    (c17 : PySem.W.codeIn K cd17 "power" = true)
    (k17 : PySem.W.keepIn K (.ref f17) = true)
    (a18 : PySem.W.nsIn K mainGlobals "apply_word" = some (some (.ref f18)))
    (l18 : K.lookup f18 = some ⟨oc18, od18, .func (PySem.W.fnOf "apply_word" "apply_word" (defArgs s_apply_word) (defBody s_apply_word) (defScope s_apply_word) .none kV18 dc18 pm18 an18 cd18 ct18), sl18⟩)
    (c18 : PySem.W.codeIn K cd18 "apply_word" = true)
    (k18 : PySem.W.keepIn K (.ref f18) = true)
    (a19 : PySem.W.nsIn K mainGlobals "round_cell" = some (some (.ref f19)))
    (l19 : K.lookup f19 = some ⟨oc19, od19, .func (PySem.W.fnOf "round_cell" "round_cell" (defArgs s_round_cell) (defBody s_round_cell) (defScope s_round_cell) .none kV19 dc19 pm19 an19 cd19 ct19), sl19⟩)
    (c19 : PySem.W.codeIn K cd19 "round_cell" = true)
    (k19 : PySem.W.keepIn K (.ref f19) = true)
    (a20 : PySem.W.nsIn K mainGlobals "round_image" = some (some (.ref f20)))
    (l20 : K.lookup f20 = some ⟨oc20, od20, .func (PySem.W.fnOf "round_image" "round_image" (defArgs s_round_image) (defBody s_round_image) (defScope s_round_image) .none kV20 dc20 pm20 an20 cd20 ct20), sl20⟩)
    (c20 : PySem.W.codeIn K cd20 "round_image" = true)
    (k20 : PySem.W.keepIn K (.ref f20) = true)
    (a21 : PySem.W.nsIn K mainGlobals "_law_spread" = some (some (.ref f21)))
    (l21 : K.lookup f21 = some ⟨oc21, od21, .func (PySem.W.fnOf "_law_spread" "_law_spread" (defArgs s__law_spread) (defBody s__law_spread) (defScope s__law_spread) .none kV21 dc21 pm21 an21 cd21 ct21), sl21⟩)
    (c21 : PySem.W.codeIn K cd21 "_law_spread" = true)
    (k21 : PySem.W.keepIn K (.ref f21) = true)
    (a22 : PySem.W.nsIn K mainGlobals "word_number" = some (some (.ref f22)))
    (l22 : K.lookup f22 = some ⟨oc22, od22, .func (PySem.W.fnOf "word_number" "word_number" (defArgs s_word_number) (defBody s_word_number) (defScope s_word_number) .none kV22 dc22 pm22 an22 cd22 ct22), sl22⟩)
    (c22 : PySem.W.codeIn K cd22 "word_number" = true)
    (k22 : PySem.W.keepIn K (.ref f22) = true)
    (a23 : PySem.W.nsIn K mainGlobals "new_cell" = some (some (.ref f23)))
    (l23 : K.lookup f23 = some ⟨oc23, od23, .func (PySem.W.fnOf "new_cell" "new_cell" (defArgs s_new_cell) (defBody s_new_cell) (defScope s_new_cell) .none kV23 dc23 pm23 an23 cd23 ct23), sl23⟩)
    (c23 : PySem.W.codeIn K cd23 "new_cell" = true)
    (k23 : PySem.W.keepIn K (.ref f23) = true)
    (a24 : PySem.W.nsIn K mainGlobals "spread_simple" = some (some (.ref f24)))
    (l24 : K.lookup f24 = some ⟨oc24, od24, .func (PySem.W.fnOf "spread_simple" "spread_simple" (defArgs s_spread_simple) (defBody s_spread_simple) (defScope s_spread_simple) .none kV24 dc24 pm24 an24 cd24 ct24), sl24⟩)
    (c24 : PySem.W.codeIn K cd24 "spread_simple" = true)
    (k24 : PySem.W.keepIn K (.ref f24) = true)
    (a25 : PySem.W.nsIn K mainGlobals "spread_image" = some (some (.ref f25)))
    (l25 : K.lookup f25 = some ⟨oc25, od25, .func (PySem.W.fnOf "spread_image" "spread_image" (defArgs s_spread_image) (defBody s_spread_image) (defScope s_spread_image) .none kV25 dc25 pm25 an25 cd25 ct25), sl25⟩)
    (c25 : PySem.W.codeIn K cd25 "spread_image" = true)
    (k25 : PySem.W.keepIn K (.ref f25) = true)
    (a26 : PySem.W.nsIn K mainGlobals "law" = some (some (.ref f26)))
    (l26 : K.lookup f26 = some ⟨oc26, od26, .func (PySem.W.fnOf "law" "law" (defArgs s_law) (defBody s_law) (defScope s_law) .none kV26 dc26 pm26 an26 cd26 ct26), sl26⟩)
    (c26 : PySem.W.codeIn K cd26 "law" = true)
    (k26 : PySem.W.keepIn K (.ref f26) = true)
    (z_abs : PySem.W.nsIn K mainGlobals "abs" = some none)
    (z_enumerate : PySem.W.nsIn K mainGlobals "enumerate" = some none)
    (z_int : PySem.W.nsIn K mainGlobals "int" = some none)
    (z_len : PySem.W.nsIn K mainGlobals "len" = some none)
    (z_list : PySem.W.nsIn K mainGlobals "list" = some none)
    (z_max : PySem.W.nsIn K mainGlobals "max" = some none)
    (z_min : PySem.W.nsIn K mainGlobals "min" = some none)
    (z_range : PySem.W.nsIn K mainGlobals "range" = some none)
    (z_sum : PySem.W.nsIn K mainGlobals "sum" = some none)
    (q_LEAST_SIZE : PySem.W.nsIn K mainGlobals "LEAST_SIZE" = some (some (.int 2 tk_LEAST_SIZE)))
    (q_MOST_CELLS : PySem.W.nsIn K mainGlobals "MOST_CELLS" = some (some (.int 4096 tk_MOST_CELLS)))
    (q_MOST_OFFSET : PySem.W.nsIn K mainGlobals "MOST_OFFSET" = some (some (.int 100 tk_MOST_OFFSET)))
    (q_MOST_SIZE : PySem.W.nsIn K mainGlobals "MOST_SIZE" = some (some (.int 4 tk_MOST_SIZE)))
    (aC_OutOfRange : PySem.W.nsIn K mainGlobals "OutOfRange" = some (some (.ref C_OutOfRange)))
    (xx_OutOfRange : PySem.W.excIn K C_OutOfRange [.type "ValueError", .type "Exception", .type "BaseException", .type "object"] "ValueError.__new__" = true)
    (xk_OutOfRange : PySem.W.keepIn K (.ref C_OutOfRange) = true)
    (xb_OutOfRange : PySem.W.subIn K (.ref C_OutOfRange) (.type "BaseException") = some true)
    (xt_OutOfRange : PySem.W.typeIn K (.ref C_OutOfRange) = some (.type "type"))
    (xi_OutOfRange : PySem.W.hasDictIn K C_OutOfRange = true)
    (xs_OutOfRange : PySem.W.subIn K (.ref C_OutOfRange) (.ref C_OutOfRange) = some true) :
    ∀ base : Heap, K.In base → base.Ns mainGlobals mg → ∃ (fd : FuncData) (ps : List Str), FnG l.prog w K mg base CX0 5 fa fd 1 ps (SpR K R_law) ∧ ∀ (s : Shared) (u : Value), K.In s.heap → BindsTo s fd ⟨[u], []⟩ (ps.zip [u]) := by
  intro base _ _
  have T_OutOfRange : ExcT K C_OutOfRange := ⟨xx_OutOfRange, xk_OutOfRange, xb_OutOfRange, xt_OutOfRange, xi_OutOfRange, xs_OutOfRange⟩
  have F0 := fun_mk (st := s__law_draws) l0 c0 k0
  have b0 := F0.binds (ps := ["cell", "limits"]) fun _ _ _ _ _ _ us hl => match us, hl with | [_, _], _ => rfl
  have C0 := ok__law_draws (P := l.prog) (w := w) (base := base) F0 (PySem.W.mg_of X G a0) b0 (PySem.W.mg_none_of X G z_abs) (PySem.W.mg_none_of X G z_int)
  have F1 := fun_mk (st := s__law_power) l1 c1 k1
  have b1 := F1.binds (ps := ["size", "exponent"]) fun _ _ _ _ _ _ us hl => match us, hl with | [_, _], _ => rfl
  have C1 := ok__law_power (P := l.prog) (w := w) (base := base) F1 (PySem.W.mg_of X G a1) b1 (PySem.W.mg_none_of X G z_range)
  have F2 := fun_mk (st := s__law_digits) l2 c2 k2
  have b2 := F2.binds (ps := ["index", "size", "width"]) fun _ _ _ _ _ _ us hl => match us, hl with | [_, _, _], _ => rfl
  have C2 := ok__law_digits (P := l.prog) (w := w) (base := base) F2 (PySem.W.mg_of X G a2) b2 (PySem.W.mg_none_of X G z_int) (PySem.W.mg_none_of X G z_range)
  have F3 := fun_mk (st := s__law_index) l3 c3 k3
  have b3 := F3.binds (ps := ["cells", "size"]) fun _ _ _ _ _ _ us hl => match us, hl with | [_, _], _ => rfl
  have C3 := ok__law_index (P := l.prog) (w := w) (base := base) F3 (PySem.W.mg_of X G a3) b3 
  have F4 := fun_mk (st := s__law_table) l4 c4 k4
  have b4 := F4.binds (ps := ["cell", "size", "width"]) fun _ _ _ _ _ _ us hl => match us, hl with | [_, _, _], _ => rfl
  have C4 := ok__law_table (P := l.prog) (w := w) (base := base) F4 (PySem.W.mg_of X G a4) b4 C1 C0 C2 C3 (PySem.W.mg_none_of X G z_int) (PySem.W.mg_none_of X G z_max) (PySem.W.mg_none_of X G z_min) (PySem.W.mg_none_of X G z_range) (PySem.W.mg_none_of X G z_sum)
  have F5 := fun_mk (st := s__law_map) l5 c5 k5
  have b5 := F5.binds (ps := ["cell", "more", "most"]) fun _ _ _ _ _ _ us hl => match us, hl with | [_, _, _], _ => rfl
  have C5 := ok__law_map (P := l.prog) (w := w) (base := base) F5 (PySem.W.mg_of X G a5) b5 C0 C1 C4 (PySem.W.mg_none_of X G z_range)
  have F6 := fun_mk (st := s__law_cell) l6 c6 k6
  have b6 := F6.binds (ps := ["script", "k"]) fun _ _ _ _ _ _ us hl => match us, hl with | [_, _], _ => rfl
  have C6 := ok__law_cell (P := l.prog) (w := w) (base := base) F6 (PySem.W.mg_of X G a6) b6 (PySem.W.mg_none_of X G z_int) (PySem.W.mg_none_of X G z_len)
  have F7 := fun_mk (st := s__law_second) l7 c7 k7
  have b7 := F7.binds (ps := ["first", "cell", "more"]) fun _ _ _ _ _ _ us hl => match us, hl with | [_, _, _], _ => rfl
  have C7 := ok__law_second (P := l.prog) (w := w) (base := base) F7 (PySem.W.mg_of X G a7) b7 C1 C4 (PySem.W.mg_none_of X G z_int) (PySem.W.mg_none_of X G z_range)
  have F8 := fun_mk (st := s_offset_fits) l8 c8 k8
  have b8 := F8.binds (ps := ["offset"]) fun _ _ _ _ _ _ us hl => match us, hl with | [_], _ => rfl
  have C8 := ok_offset_fits (P := l.prog) (w := w) (base := base) F8 (PySem.W.mg_of X G a8) b8 _ (PySem.W.mg_of X G q_MOST_OFFSET)
  have F9 := fun_mk (st := s_image_numbers) l9 c9 k9
  have b9 := F9.binds (ps := ["one", "length"]) fun _ _ _ _ _ _ us hl => match us, hl with | [_, _], _ => rfl
  have C9 := ok_image_numbers (P := l.prog) (w := w) (base := base) F9 (PySem.W.mg_of X G a9) b9 (PySem.W.mg_none_of X G z_len) (PySem.W.mg_none_of X G z_list) (PySem.W.mg_none_of X G z_range)
  have F10 := fun_mk (st := s_composed) l10 c10 k10
  have b10 := F10.binds (ps := ["first", "second"]) fun _ _ _ _ _ _ us hl => match us, hl with | [_, _], _ => rfl
  have C10 := ok_composed (P := l.prog) (w := w) (base := base) F10 (PySem.W.mg_of X G a10) b10 C8 C9 (PySem.W.mg_none_of X G z_len) _ (PySem.W.mg_of X G q_MOST_CELLS) (PySem.W.mg_of X G aC_OutOfRange) T_OutOfRange
  have F11 := fun_mk (st := s_ignores_first) l11 c11 k11
  have b11 := F11.binds (ps := ["size", "table"]) fun _ _ _ _ _ _ us hl => match us, hl with | [_, _], _ => rfl
  have C11 := ok_ignores_first (P := l.prog) (w := w) (base := base) F11 (PySem.W.mg_of X G a11) b11 (PySem.W.mg_none_of X G z_len)
  have F12 := fun_mk (st := s_ignores_last) l12 c12 k12
  have b12 := F12.binds (ps := ["size", "table"]) fun _ _ _ _ _ _ us hl => match us, hl with | [_, _], _ => rfl
  have C12 := ok_ignores_last (P := l.prog) (w := w) (base := base) F12 (PySem.W.mg_of X G a12) b12 (PySem.W.mg_none_of X G z_len) (PySem.W.mg_none_of X G z_range)
  have F13 := fun_mk (st := s_narrowed) l13 c13 k13
  have b13 := F13.binds (ps := ["one"]) fun _ _ _ _ _ _ us hl => match us, hl with | [_], _ => rfl
  have C13 := ok_narrowed (P := l.prog) (w := w) (base := base) F13 (PySem.W.mg_of X G a13) b13 C11 C12 (PySem.W.mg_none_of X G z_len) (PySem.W.mg_none_of X G z_list)
  have F14 := fun_mk (st := s_reduced) l14 c14 k14
  have b14 := F14.binds (ps := ["one"]) fun _ _ _ _ _ _ us hl => match us, hl with | [_], _ => rfl
  have C14 := ok_reduced (P := l.prog) (w := w) (base := base) F14 (PySem.W.mg_of X G a14) b14 C13 C8 (PySem.W.mg_of X G aC_OutOfRange) T_OutOfRange
  have F15 := fun_mk (st := s_size_fits) l15 c15 k15
  have b15 := F15.binds (ps := ["size"]) fun _ _ _ _ _ _ us hl => match us, hl with | [_], _ => rfl
  have C15 := ok_size_fits (P := l.prog) (w := w) (base := base) F15 (PySem.W.mg_of X G a15) b15 _ (PySem.W.mg_of X G q_LEAST_SIZE) _ (PySem.W.mg_of X G q_MOST_SIZE)
  have F16 := fun_mk (st := s_shift_map) l16 c16 k16
  have b16 := F16.binds (ps := ["size", "places"]) fun _ _ _ _ _ _ us hl => match us, hl with | [_, _], _ => rfl
  have C16 := ok_shift_map (P := l.prog) (w := w) (base := base) F16 (PySem.W.mg_of X G a16) b16 C15 C8 (PySem.W.mg_none_of X G z_list) (PySem.W.mg_none_of X G z_range) (PySem.W.mg_of X G aC_OutOfRange) T_OutOfRange
  have F17 := fun_mk (st := s_power) l17 c17 k17
  have b17 := F17.binds (ps := ["one", "exponent"]) fun _ _ _ _ _ _ us hl => match us, hl with | [_, _], _ => rfl
  have C17 := ok_power (P := l.prog) (w := w) (base := base) F17 (PySem.W.mg_of X G a17) b17 C16 C14 C10 (PySem.W.mg_of X G aC_OutOfRange) T_OutOfRange
  have F18 := fun_mk (st := s_apply_word) l18 c18 k18
  have b18 := F18.binds (ps := ["one", "word"]) fun _ _ _ _ _ _ us hl => match us, hl with | [_, _], _ => rfl
  have C18 := ok_apply_word (P := l.prog) (w := w) (base := base) F18 (PySem.W.mg_of X G a18) b18 (PySem.W.mg_none_of X G z_enumerate) (PySem.W.mg_none_of X G z_len)
  have F19 := fun_mk (st := s_round_cell) l19 c19 k19
  have b19 := F19.binds (ps := ["row", "place"]) fun _ _ _ _ _ _ us hl => match us, hl with | [_, _], _ => rfl
  have C19 := ok_round_cell (P := l.prog) (w := w) (base := base) F19 (PySem.W.mg_of X G a19) b19 (PySem.W.mg_none_of X G z_len)
  have F20 := fun_mk (st := s_round_image) l20 c20 k20
  have b20 := F20.binds (ps := ["one", "row"]) fun _ _ _ _ _ _ us hl => match us, hl with | [_, _], _ => rfl
  have C20 := ok_round_image (P := l.prog) (w := w) (base := base) F20 (PySem.W.mg_of X G a20) b20 C18 C19 (PySem.W.mg_none_of X G z_len) (PySem.W.mg_none_of X G z_range)
  have F21 := fun_mk (st := s__law_spread) l21 c21 k21
  have b21 := F21.binds (ps := ["cell", "size"]) fun _ _ _ _ _ _ us hl => match us, hl with | [_, _], _ => rfl
  have C21 := ok__law_spread (P := l.prog) (w := w) (base := base) F21 (PySem.W.mg_of X G a21) b21 C0
  have F22 := fun_mk (st := s_word_number) l22 c22 k22
  have b22 := F22.binds (ps := ["size", "word"]) fun _ _ _ _ _ _ us hl => match us, hl with | [_, _], _ => rfl
  have C22 := ok_word_number (P := l.prog) (w := w) (base := base) F22 (PySem.W.mg_of X G a22) b22 
  have F23 := fun_mk (st := s_new_cell) l23 c23 k23
  have b23 := F23.binds (ps := ["one", "window"]) fun _ _ _ _ _ _ us hl => match us, hl with | [_, _], _ => rfl
  have C23 := ok_new_cell (P := l.prog) (w := w) (base := base) F23 (PySem.W.mg_of X G a23) b23 C22
  have F24 := fun_mk (st := s_spread_simple) l24 c24 k24
  have b24 := F24.binds (ps := ["row"]) fun _ _ _ _ _ _ us hl => match us, hl with | [_], _ => rfl
  have C24 := ok_spread_simple (P := l.prog) (w := w) (base := base) F24 (PySem.W.mg_of X G a24) b24 (PySem.W.mg_none_of X G z_len)
  have F25 := fun_mk (st := s_spread_image) l25 c25 k25
  have b25 := F25.binds (ps := ["one", "row"]) fun _ _ _ _ _ _ us hl => match us, hl with | [_, _], _ => rfl
  have C25 := ok_spread_image (P := l.prog) (w := w) (base := base) F25 (PySem.W.mg_of X G a25) b25 C18 C23 C24
  have F26 := fun_mk (st := s_law) l26 c26 k26
  have b26 := F26.binds (ps := ["script"]) fun _ _ _ _ _ _ us hl => match us, hl with | [_], _ => rfl
  have C26 := ok_law (P := l.prog) (w := w) (base := base) F26 (PySem.W.mg_of X G a26) b26 C5 C6 C7 C10 C14 C17 C16 C0 C20 C21 C25 C24 C18 (PySem.W.mg_none_of X G z_int) (PySem.W.mg_none_of X G z_len) (PySem.W.mg_none_of X G z_range) (PySem.W.mg_of X G aC_OutOfRange) T_OutOfRange
  obtain ⟨f, fd, h1, h2, _, h4⟩ := C26.ex
  have e := hfa.symm.trans h2
  cases e
  exact ⟨fd, _, h1, fun s u hk => h4 s [u] hk rfl⟩
end Ed
open PySem PySem.W PyProof.Rows
set_option maxHeartbeats 0 in
theorem PySem.Challenge.cw_edenrow_k09_whole_compositions_act_on_ro_holds : PySem.Challenge.rw_edenrow_k09_whole_compositions_act_on_ro.Holds := by
  w_on; o_law; k_head; (case hw => w_witness2)
  k_fill
  refine Ed.walk_G (l := PySem.Challenge.rw_edenrow_k09_whole_compositions_act_on_ro) (n := 63) (k := 5) (R := Ed.R_law) rfl (by decide) rfl ⟨rfl, by decide, by decide⟩ (fun w h Y => PySem.W.kIn_of Y) ?F (fun ns hl hb => .mk ns hl)
  case F =>
    intro w mg fa h KX G hmg
    refine' Ed.all_mk KX G hmg ?a0 ?l0 ?c0 ?k0 ?a1 ?l1 ?c1 ?k1 ?a2 ?l2 ?c2 ?k2 ?a3 ?l3 ?c3 ?k3 ?a4 ?l4 ?c4 ?k4 ?a5 ?l5 ?c5 ?k5 ?a6 ?l6 ?c6 ?k6 ?a7 ?l7 ?c7 ?k7 ?a8 ?l8 ?c8 ?k8 ?a9 ?l9 ?c9 ?k9 ?a10 ?l10 ?c10 ?k10 ?a11 ?l11 ?c11 ?k11 ?a12 ?l12 ?c12 ?k12 ?a13 ?l13 ?c13 ?k13 ?a14 ?l14 ?c14 ?k14 ?a15 ?l15 ?c15 ?k15 ?a16 ?l16 ?c16 ?k16 ?a17 ?l17 ?c17 ?k17 ?a18 ?l18 ?c18 ?k18 ?a19 ?l19 ?c19 ?k19 ?a20 ?l20 ?c20 ?k20 ?a21 ?l21 ?c21 ?k21 ?a22 ?l22 ?c22 ?k22 ?a23 ?l23 ?c23 ?k23 ?a24 ?l24 ?c24 ?k24 ?a25 ?l25 ?c25 ?k25 ?a26 ?l26 ?c26 ?k26 ?z_abs ?z_enumerate ?z_int ?z_len ?z_list ?z_max ?z_min ?z_range ?z_sum ?q_LEAST_SIZE ?q_MOST_CELLS ?q_MOST_OFFSET ?q_MOST_SIZE ?aC_OutOfRange ?xx_OutOfRange ?xk_OutOfRange ?xb_OutOfRange ?xt_OutOfRange ?xi_OutOfRange ?xs_OutOfRange
    (case a0 => k_is)
    (case l0 => k_is)
    (case c0 => k_is)
    (case k0 => k_is)
    (case a1 => k_is)
    (case l1 => k_is)
    (case c1 => k_is)
    (case k1 => k_is)
    (case a2 => k_is)
    (case l2 => k_is)
    (case c2 => k_is)
    (case k2 => k_is)
    (case a3 => k_is)
    (case l3 => k_is)
    (case c3 => k_is)
    (case k3 => k_is)
    (case a4 => k_is)
    (case l4 => k_is)
    (case c4 => k_is)
    (case k4 => k_is)
    (case a5 => k_is)
    (case l5 => k_is)
    (case c5 => k_is)
    (case k5 => k_is)
    (case a6 => k_is)
    (case l6 => k_is)
    (case c6 => k_is)
    (case k6 => k_is)
    (case a7 => k_is)
    (case l7 => k_is)
    (case c7 => k_is)
    (case k7 => k_is)
    (case a8 => k_is)
    (case l8 => k_is)
    (case c8 => k_is)
    (case k8 => k_is)
    (case a9 => k_is)
    (case l9 => k_is)
    (case c9 => k_is)
    (case k9 => k_is)
    (case a10 => k_is)
    (case l10 => k_is)
    (case c10 => k_is)
    (case k10 => k_is)
    (case a11 => k_is)
    (case l11 => k_is)
    (case c11 => k_is)
    (case k11 => k_is)
    (case a12 => k_is)
    (case l12 => k_is)
    (case c12 => k_is)
    (case k12 => k_is)
    (case a13 => k_is)
    (case l13 => k_is)
    (case c13 => k_is)
    (case k13 => k_is)
    (case a14 => k_is)
    (case l14 => k_is)
    (case c14 => k_is)
    (case k14 => k_is)
    (case a15 => k_is)
    (case l15 => k_is)
    (case c15 => k_is)
    (case k15 => k_is)
    (case a16 => k_is)
    (case l16 => k_is)
    (case c16 => k_is)
    (case k16 => k_is)
    (case a17 => k_is)
    (case l17 => k_is)
    (case c17 => k_is)
    (case k17 => k_is)
    (case a18 => k_is)
    (case l18 => k_is)
    (case c18 => k_is)
    (case k18 => k_is)
    (case a19 => k_is)
    (case l19 => k_is)
    (case c19 => k_is)
    (case k19 => k_is)
    (case a20 => k_is)
    (case l20 => k_is)
    (case c20 => k_is)
    (case k20 => k_is)
    (case a21 => k_is)
    (case l21 => k_is)
    (case c21 => k_is)
    (case k21 => k_is)
    (case a22 => k_is)
    (case l22 => k_is)
    (case c22 => k_is)
    (case k22 => k_is)
    (case a23 => k_is)
    (case l23 => k_is)
    (case c23 => k_is)
    (case k23 => k_is)
    (case a24 => k_is)
    (case l24 => k_is)
    (case c24 => k_is)
    (case k24 => k_is)
    (case a25 => k_is)
    (case l25 => k_is)
    (case c25 => k_is)
    (case k25 => k_is)
    (case a26 => k_is)
    (case l26 => k_is)
    (case c26 => k_is)
    (case k26 => k_is)
    (case z_abs => k_is)
    (case z_enumerate => k_is)
    (case z_int => k_is)
    (case z_len => k_is)
    (case z_list => k_is)
    (case z_max => k_is)
    (case z_min => k_is)
    (case z_range => k_is)
    (case z_sum => k_is)
    (case q_LEAST_SIZE => k_is)
    (case q_MOST_CELLS => k_is)
    (case q_MOST_OFFSET => k_is)
    (case q_MOST_SIZE => k_is)
    (case aC_OutOfRange => k_is)
    (case xx_OutOfRange => k_exc)
    (case xk_OutOfRange => k_is)
    (case xb_OutOfRange => k_is)
    (case xt_OutOfRange => k_is)
    (case xi_OutOfRange => k_is)
    (case xs_OutOfRange => first | rfl | k_is)
