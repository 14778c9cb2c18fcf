import PyProof.Rows.All
import Wide.All
import OpenK.AllK
import Wide.FinOn
import HandS.ForMost
import HandS.Walk
import HandS.Wide
import HandS.Gcd
import HandS.Zip
import HandS.IsInst
import PyProof.ReprRoads
import PyProof.Rows.NestShow
import HandS.TupMul
import HandS.TupAny
import KE.GoesEnum
import KE.GoesZip
import PyProof.CallFns
import HandS.NoneIn
import HandS.Conv
import HandS.Style
import PySem.Challenge.RW_everygust_k03_rooms_of_rooms
section
set_option Elab.async false
set_option linter.all false
set_option maxRecDepth 100000
/-! A layer of one's own: the readings of the hand layer, told over data alone. A frame tells which addresses may change (W) and what is kept of them (J); values are read as data (Dq) that never hangs on those addresses. -/
namespace Dl
open PySem L2

/-! ### frames -/
structure Fr where
  W : Addr → Prop
  J : Hp → Prop
  loc : ∀ H H', (∀ a, W a → H' a = H a) → J H → J H'
  dom : ∀ H a, J H → W a → H a ≠ none
abbrev Lk := Addr → Option HO
def Fr.lock (B : Fr) (O : Lk) : Fr where
  W := fun a => B.W a ∨ O a ≠ none
  J := fun H => B.J H ∧ ∀ a o, O a = some o → ¬ B.W a ∧ H a = some o
  loc := fun H H' e j => ⟨B.loc H H' (fun a w => e a (.inl w)) j.1, fun a o h => ⟨(j.2 a o h).1, by
    rw [e a (.inr (by rw [h]; exact nofun))]
    exact (j.2 a o h).2⟩⟩
  dom := fun H a j w => by
    rcases w with w | w
    · exact B.dom H a j.1 w
    · cases e : O a with
      | none => exact absurd e w
      | some o =>
        rw [(j.2 a o e).2]
        exact nofun
def Gro (F : Fr) (H H' : Hp) : Prop := (∀ a o, ¬ F.W a → H a = some o → H' a = some o) ∧ F.J H'
theorem Gro.refl {F : Fr} {H : Hp} (j : F.J H) : Gro F H H := ⟨fun _ _ _ e => e, j⟩
theorem Gro.trans {F : Fr} {H H1 H2 : Hp} (a : Gro F H H1) (b : Gro F H1 H2) : Gro F H H2 := ⟨fun x o w e => b.1 x o w (a.1 x o w e), b.2⟩
theorem Fr.fresh {F : Fr} {H : Hp} {p : Addr} (j : F.J H) (hp : H p = none) : ¬ F.W p := fun w => F.dom H p j w hp
theorem Gro.new {F : Fr} {H : Hp} {p : Addr} {o : HO} (j : F.J H) (hp : H p = none) : Gro F H (upd H p o) :=
  ⟨fun a u _ e => by rw [upd_ne (ne_of_none e hp)]; exact e, F.loc H _ (fun a w => upd_ne (fun z => Fr.fresh j hp (z ▸ w))) j⟩

/-! ### data -/
mutual
inductive Dq (W : Addr → Prop) (H : Hp) : V → PyData → Prop
  | non : Dq W H .non .none
  | bl (b : Bool) : Dq W H (.bl b) (.bool b)
  | int (i : Int) : Dq W H (.int i) (.int i)
  | str (x : Str) : Dq W H (.str x) (.str x)
  | lst {a : Addr} {xs : List V} {ds : List PyData} : ¬ W a → H a = some (.lst xs) → DqA W H xs ds → Dq W H (.ref a) (.list ds)
  | tup {a : Addr} {xs : List V} {ds : List PyData} : ¬ W a → H a = some (.tup xs) → DqA W H xs ds → Dq W H (.ref a) (.tuple ds)
inductive DqA (W : Addr → Prop) (H : Hp) : List V → List PyData → Prop
  | nil : DqA W H [] []
  | cons {v : V} {vs : List V} {d : PyData} {ds : List PyData} : Dq W H v d → DqA W H vs ds → DqA W H (v :: vs) (d :: ds)
end
section
variable {W W' : Addr → Prop} {H H' : Hp}
mutual
theorem Dq.to (k : ∀ a o, ¬ W a → H a = some o → ¬ W' a ∧ H' a = some o) : ∀ (d : PyData) (v : V), Dq W H v d → Dq W' H' v d
  | .none, _, h => by cases h; exact .non
  | .bool b, _, h => by cases h; exact .bl b
  | .int i, _, h => by cases h; exact .int i
  | .str x, _, h => by cases h; exact .str x
  | .list ds, _, h => by
    cases h with
    | lst w e r => exact .lst (k _ _ w e).1 (k _ _ w e).2 (DqA.to k ds _ r)
  | .tuple ds, _, h => by
    cases h with
    | tup w e r => exact .tup (k _ _ w e).1 (k _ _ w e).2 (DqA.to k ds _ r)
  | .dict _, _, h => by cases h
theorem DqA.to (k : ∀ a o, ¬ W a → H a = some o → ¬ W' a ∧ H' a = some o) : ∀ (ds : List PyData) (vs : List V), DqA W H vs ds → DqA W' H' vs ds
  | [], _, h => by cases h; exact .nil
  | d :: ds, _, h => by
    cases h with
    | cons h1 h2 => exact .cons (Dq.to k d _ h1) (DqA.to k ds _ h2)
end
mutual
theorem Dq.dp (K : PySem.W.Frag) : ∀ (d : PyData) (v : V), Dq W H v d → Dp K H v d
  | .none, _, h => by cases h; exact .non
  | .bool b, _, h => by cases h; exact .bl b
  | .int i, _, h => by cases h; exact .int i
  | .str x, _, h => by cases h; exact .str x
  | .list ds, _, h => by
    cases h with
    | lst w e r => exact .lst (SqL.of e) (DqA.dp K ds _ r)
  | .tuple ds, _, h => by
    cases h with
    | tup w e r => exact .tup (SqT.of e) (DqA.dp K ds _ r)
  | .dict _, _, h => by cases h
theorem DqA.dp (K : PySem.W.Frag) : ∀ (ds : List PyData) (vs : List V), DqA W H vs ds → DpAll K H vs ds
  | [], _, h => by cases h; exact .nil
  | d :: ds, _, h => by
    cases h with
    | cons h1 h2 => exact .cons (Dq.dp K d _ h1) (DqA.dp K ds _ h2)
end
theorem Dq.gro {F : Fr} {v : V} {d : PyData} (h : Dq F.W H v d) (g : Gro F H H') : Dq F.W H' v d := Dq.to (fun a o w e => ⟨w, g.1 a o w e⟩) d v h
theorem DqA.gro {F : Fr} {vs : List V} {ds : List PyData} (h : DqA F.W H vs ds) (g : Gro F H H') : DqA F.W H' vs ds := DqA.to (fun a o w e => ⟨w, g.1 a o w e⟩) ds vs h
theorem DqA.len {vs : List V} {ds : List PyData} (h : DqA W H vs ds) : vs.length = ds.length := by
  induction ds generalizing vs with
  | nil => cases h; rfl
  | cons d ds ih =>
    cases h with
    | cons _ h2 => rw [List.length_cons, List.length_cons, ih h2]
theorem DqA.get {vs : List V} {ds : List PyData} (h : DqA W H vs ds) {i : Nat} {d : PyData} (e : ds[i]? = some d) : ∃ v, vs[i]? = some v ∧ Dq W H v d := by
  induction ds generalizing vs i with
  | nil => simp at e
  | cons c cs ih =>
    cases h with
    | cons h1 h2 =>
      cases i with
      | zero => simp at e; subst e; exact ⟨_, rfl, h1⟩
      | succ i =>
        obtain ⟨v, e1, e2⟩ := ih h2 (by simpa using e)
        exact ⟨v, by simpa using e1, e2⟩
theorem DqA.getV {vs : List V} {ds : List PyData} (h : DqA W H vs ds) {i : Nat} {v : V} (e : vs[i]? = some v) : ∃ d, ds[i]? = some d ∧ Dq W H v d := by
  have hl := h.len
  have hi : i < vs.length := (List.getElem?_eq_some_iff.mp e).1
  have e2 : ds[i]? = some ds[i] := List.getElem?_eq_getElem (by omega)
  obtain ⟨v', e3, q⟩ := h.get e2
  rw [e] at e3
  cases e3
  exact ⟨_, e2, q⟩
theorem DqA.append {vs us : List V} {ds es : List PyData} (h : DqA W H vs ds) (g : DqA W H us es) : DqA W H (vs ++ us) (ds ++ es) := by
  induction ds generalizing vs with
  | nil => cases h; exact g
  | cons c cs ih =>
    cases h with
    | cons h1 h2 => exact .cons h1 (ih h2)
theorem DqA.take {vs : List V} {ds : List PyData} (n : Nat) (h : DqA W H vs ds) : DqA W H (vs.take n) (ds.take n) := by
  induction ds generalizing vs n with
  | nil => cases h; simp; exact .nil
  | cons c cs ih =>
    cases h with
    | cons h1 h2 =>
      cases n with
      | zero => exact .nil
      | succ n => exact .cons h1 (ih n h2)
theorem DqA.drop {vs : List V} {ds : List PyData} (n : Nat) (h : DqA W H vs ds) : DqA W H (vs.drop n) (ds.drop n) := by
  induction ds generalizing vs n with
  | nil => cases h; simp; exact .nil
  | cons c cs ih =>
    cases h with
    | cons h1 h2 =>
      cases n with
      | zero => exact .cons h1 h2
      | succ n => exact ih n h2
theorem DqA.eraseIdx {vs : List V} {ds : List PyData} (n : Nat) (h : DqA W H vs ds) : DqA W H (vs.eraseIdx n) (ds.eraseIdx n) := by
  induction ds generalizing vs n with
  | nil => cases h; simp; exact .nil
  | cons c cs ih =>
    cases h with
    | cons h1 h2 =>
      cases n with
      | zero => exact h2
      | succ n => exact .cons h1 (ih n h2)
theorem DqA.ints {ns : List Int} : ∀ {vs : List V}, DqA W H vs (ns.map PyData.int) → vs = ns.map V.int := by
  induction ns with
  | nil => intro vs h; cases h; rfl
  | cons n ns ih =>
    intro vs h
    cases h with
    | cons h1 h2 => cases h1; rw [ih h2]; rfl
theorem DqA.bools {ns : List Bool} : ∀ {vs : List V}, DqA W H vs (ns.map PyData.bool) → vs = ns.map V.bl := by
  induction ns with
  | nil => intro vs h; cases h; rfl
  | cons n ns ih =>
    intro vs h
    cases h with
    | cons h1 h2 => cases h1; rw [ih h2]; rfl
theorem DqA.ofInts : ∀ (ns : List Int), DqA W H (ns.map V.int) (ns.map PyData.int)
  | [] => .nil
  | n :: ns => .cons (.int n) (DqA.ofInts ns)
end

/-! ### a def's names as data -/
inductive Ent where
  | non
  | dat (d : PyData)
  | raw (v : V)
  | own (a : Addr) (ds : List PyData)
def owned : List Ent → List Addr
  | [] => []
  | .own a _ :: r => a :: owned r
  | .non :: r => owned r
  | .dat _ :: r => owned r
  | .raw _ :: r => owned r
def SlotOk (W : Addr → Prop) (O : Lk) (H : Hp) (s : Option V) : Ent → Prop
  | .non => True
  | .dat d => ∃ v, s = some v ∧ Dq W H v d
  | .raw v => s = some v
  | .own a ds => s = some (.ref a) ∧ ∃ vs, O a = some (.lst vs) ∧ DqA W H vs ds
def Slots (W : Addr → Prop) (O : Lk) (H : Hp) : L2.St → List Ent → Prop
  | [], [] => True
  | s :: σ, e :: env => SlotOk W O H s e ∧ Slots W O H σ env
  | _, _ => False
section
variable {W W' : Addr → Prop} {O O' : Lk} {H H' : Hp}
theorem SlotOk.to (k : ∀ a o, ¬ W a → H a = some o → ¬ W' a ∧ H' a = some o) {s : Option V} {e : Ent} (hO : ∀ a ds, e = .own a ds → O' a = O a) (h : SlotOk W O H s e) : SlotOk W' O' H' s e := by
  cases e with
  | non => trivial
  | dat d => obtain ⟨v, e1, q⟩ := h; exact ⟨v, e1, q.to k⟩
  | raw v => exact h
  | own a ds => obtain ⟨e1, vs, e2, q⟩ := h; exact ⟨e1, vs, (hO a ds rfl).trans e2, q.to k⟩
theorem Slots.to (k : ∀ a o, ¬ W a → H a = some o → ¬ W' a ∧ H' a = some o) : ∀ {σ : L2.St} {env : List Ent}, (∀ a, a ∈ owned env → O' a = O a) → Slots W O H σ env → Slots W' O' H' σ env
  | [], [], _, _ => trivial
  | s :: σ, e :: env, hO, h => ⟨h.1.to k (fun a ds z => hO a (by subst z; exact List.mem_cons_self)), Slots.to k (fun a z => hO a (by cases e <;> first | exact z | exact List.mem_cons_of_mem _ z)) h.2⟩
  | [], _ :: _, _, h => h.elim
  | _ :: _, [], _, h => h.elim
theorem Slots.get : ∀ {σ : L2.St} {env : List Ent} {i : Nat} {e : Ent}, Slots W O H σ env → env[i]? = some e → ∃ s, σ[i]? = some s ∧ SlotOk W O H s e
  | [], [], _, _, _, z => by simp at z
  | s :: σ, c :: env, 0, e, h, z => by simp at z; subst z; exact ⟨s, rfl, h.1⟩
  | s :: σ, c :: env, i + 1, e, h, z => by
    obtain ⟨s', e1, q⟩ := Slots.get (i := i) (e := e) h.2 (by simpa using z)
    exact ⟨s', by simpa using e1, q⟩
  | [], _ :: _, _, _, h, _ => h.elim
  | _ :: _, [], _, _, h, _ => h.elim
theorem Slots.set : ∀ {σ : L2.St} {env : List Ent} (i : Nat) {s : Option V} {e : Ent}, Slots W O H σ env → SlotOk W O H s e → Slots W O H (σ.set i s) (env.set i e)
  | [], [], _, _, _, h, _ => h
  | c :: σ, b :: env, 0, s, e, h, z => ⟨z, h.2⟩
  | c :: σ, b :: env, i + 1, s, e, h, z => ⟨h.1, Slots.set i h.2 z⟩
  | [], _ :: _, _, _, _, h, _ => h.elim
  | _ :: _, [], _, _, _, h, _ => h.elim
end
theorem owned_get : ∀ {env : List Ent} {i : Nat} {a : Addr} {ds : List PyData}, env[i]? = some (.own a ds) → a ∈ owned env
  | c :: env, 0, a, ds, e => by simp at e; subst e; exact List.mem_cons_self
  | c :: env, i + 1, a, ds, e => by
    have q := owned_get (env := env) (i := i) (a := a) (ds := ds) (by simpa using e)
    cases c <;> first | exact q | exact List.mem_cons_of_mem _ q
  | [], _, _, _, e => by simp at e
/-- a slot that holds no list of one's own is stored -/
theorem owned_set_sub : ∀ {env : List Ent} (i : Nat) {e : Ent}, (∀ a ds, e ≠ .own a ds) → ∀ a, a ∈ owned (env.set i e) → a ∈ owned env
  | [], _, _, _, a, h => h
  | c :: env, 0, e, he, a, h => by
    have h' : a ∈ owned env := by
      cases e with
      | own b ds => exact absurd rfl (he b ds)
      | non => exact h
      | dat d => exact h
      | raw v => exact h
    cases c <;> first | exact h' | exact List.mem_cons_of_mem _ h'
  | c :: env, i + 1, e, he, a, h => by
    cases c with
    | own b ds =>
      rcases List.mem_cons.mp (show a ∈ b :: owned (env.set i e) from h) with z | z
      · exact z ▸ List.mem_cons_self
      · exact List.mem_cons_of_mem _ (owned_set_sub i he a z)
    | non => exact owned_set_sub (env := env) i he a h
    | dat d => exact owned_set_sub (env := env) i he a h
    | raw v => exact owned_set_sub (env := env) i he a h
theorem owned_set_nd : ∀ {env : List Ent} (i : Nat) {e : Ent}, (∀ a ds, e ≠ .own a ds) → (owned env).Nodup → (owned (env.set i e)).Nodup
  | [], _, _, _, h => h
  | c :: env, 0, e, he, h => by
    have h' : (owned env).Nodup := by cases c <;> first | exact h | exact (List.nodup_cons.mp h).2
    cases e with
    | own b ds => exact absurd rfl (he b ds)
    | non => exact h'
    | dat d => exact h'
    | raw v => exact h'
  | c :: env, i + 1, e, he, h => by
    cases c with
    | own b ds =>
      have q := List.nodup_cons.mp (show (b :: owned env).Nodup from h)
      exact List.nodup_cons.mpr ⟨fun z => q.1 (owned_set_sub i he b z), owned_set_nd i he q.2⟩
    | non => exact owned_set_nd (env := env) i he h
    | dat d => exact owned_set_nd (env := env) i he h
    | raw v => exact owned_set_nd (env := env) i he h
/-- .. a list of one's own, new or in the place of itself -/
theorem owned_set_own : ∀ {env : List Ent} (i : Nat) {b : Addr} {ds : List PyData} (a : Addr), a ∈ owned (env.set i (.own b ds)) → a = b ∨ a ∈ owned env
  | [], _, _, _, a, h => .inr h
  | c :: env, 0, b, ds, a, h => by
    rcases List.mem_cons.mp (show a ∈ b :: owned env from h) with z | z
    · exact .inl z
    · right
      cases c <;> first | exact z | exact List.mem_cons_of_mem _ z
  | c :: env, i + 1, b, ds, a, h => by
    cases c with
    | own b' ds' =>
      rcases List.mem_cons.mp (show a ∈ b' :: owned (env.set i (.own b ds)) from h) with z | z
      · exact .inr (z ▸ List.mem_cons_self)
      · rcases owned_set_own i a z with q | q
        · exact .inl q
        · exact .inr (List.mem_cons_of_mem _ q)
    | non => exact owned_set_own (env := env) i a h
    | dat d => exact owned_set_own (env := env) i a h
    | raw v => exact owned_set_own (env := env) i a h
theorem owned_set_own_nd : ∀ {env : List Ent} (i : Nat) {b : Addr} {ds : List PyData}, (b ∉ owned env ∨ ∃ es, env[i]? = some (.own b es)) → (owned env).Nodup → (owned (env.set i (.own b ds))).Nodup
  | [], _, _, _, _, h => h
  | c :: env, 0, b, ds, hb, h => by
    have h' : (owned env).Nodup := by cases c <;> first | exact h | exact (List.nodup_cons.mp h).2
    refine List.nodup_cons.mpr ⟨?_, h'⟩
    rcases hb with hb | ⟨es, hb⟩
    · intro z
      apply hb
      cases c <;> first | exact z | exact List.mem_cons_of_mem _ z
    · have e : c = .own b es := by simpa using hb
      subst e
      exact (List.nodup_cons.mp h).1
  | c :: env, i + 1, b, ds, hb, h => by
    have hb' : (b ∉ owned env ∨ ∃ es, env[i]? = some (.own b es)) := by
      rcases hb with hb | ⟨es, hb⟩
      · left; intro z; apply hb; cases c <;> first | exact z | exact List.mem_cons_of_mem _ z
      · exact .inr ⟨es, by simpa using hb⟩
    cases c with
    | own b' ds' =>
      have q := List.nodup_cons.mp (show (b' :: owned env).Nodup from h)
      refine List.nodup_cons.mpr ⟨fun z => ?_, owned_set_own_nd i hb' q.2⟩
      rcases owned_set_own i b' z with r | r
      · subst r
        rcases hb with hb | ⟨es, hb⟩
        · exact hb List.mem_cons_self
        · exact q.1 (owned_get (i := i) (by simpa using hb))
      · exact q.1 r
    | non => exact owned_set_own_nd (env := env) i hb' h
    | dat d => exact owned_set_own_nd (env := env) i hb' h
    | raw v => exact owned_set_own_nd (env := env) i hb' h
theorem Slots.own_in {W : Addr → Prop} {O : Lk} {H : Hp} : ∀ {σ : L2.St} {env : List Ent} {a : Addr}, Slots W O H σ env → a ∈ owned env → O a ≠ none
  | [], [], _, _, z => by simp [owned] at z
  | s :: σ, c :: env, a, h, z => by
    cases c with
    | own b ds =>
      rcases List.mem_cons.mp (show a ∈ b :: owned env from z) with q | q
      · subst q
        obtain ⟨_, vs, e, _⟩ := h.1
        rw [e]; exact nofun
      · exact Slots.own_in h.2 q
    | non => exact Slots.own_in (env := env) h.2 z
    | dat d => exact Slots.own_in (env := env) h.2 z
    | raw v => exact Slots.own_in (env := env) h.2 z
  | [], _ :: _, _, h, _ => h.elim
  | _ :: _, [], _, h, _ => h.elim

/-! ### expressions -/
def EW (B : Fr) (env : List Ent) (te : TE) (Q : PyData → Prop) : Prop := ∀ (O : Lk) (σ : L2.St) (H : Hp), (B.lock O).J H → Slots (B.lock O).W O H σ env → ∀ R : VK,
  (∀ d v H2, Q d → Gro (B.lock O) H H2 → Dq (B.lock O).W H2 v d → R v H2) → te σ H R
def TW (B : Fr) (env : List Ent) (tt : TT) (Q : Bool → Prop) : Prop := ∀ (O : Lk) (σ : L2.St) (H : Hp), (B.lock O).J H → Slots (B.lock O).W O H σ env → ∀ R : Bool → Hp → Prop,
  (∀ b H2, Q b → Gro (B.lock O) H H2 → R b H2) → tt σ H R
def EA (B : Fr) (env : List Ent) (ta : TA) (Q : List Ent → Prop) : Prop := ∀ (O : Lk) (σ : L2.St) (H : Hp), (B.lock O).J H → Slots (B.lock O).W O H σ env → ∀ R : List V → Hp → Prop,
  (∀ es vs H2, Q es → Gro (B.lock O) H H2 → Slots (B.lock O).W O H2 (vs.map some) es → R vs H2) → ta σ H R
section
variable {B : Fr} {env : List Ent} {te ta tb : TE} {tt tu : TT} {Q : PyData → Prop}
theorem Slots.gro {B : Fr} {O : Lk} {H H' : Hp} {σ : L2.St} {env : List Ent} (h : Slots (B.lock O).W O H σ env) (g : Gro (B.lock O) H H') : Slots (B.lock O).W O H' σ env :=
  h.to (fun a o w e => ⟨w, g.1 a o w e⟩) (fun _ _ => rfl)
theorem EW.mono {Q' : PyData → Prop} (h : EW B env te Q) (q : ∀ d, Q d → Q' d) : EW B env te Q' := fun O σ H j s R r => h O σ H j s R fun d v H2 a => r d v H2 (q d a)
theorem TW.mono {P P' : Bool → Prop} (h : TW B env tt P) (q : ∀ d, P d → P' d) : TW B env tt P' := fun O σ H j s R r => h O σ H j s R fun d H2 a => r d H2 (q d a)
theorem ew_var {i : Nat} {d : PyData} (h : env[i]? = some (.dat d)) (q : Q d) : EW B env (tVar i) Q := fun O σ H j s R r => by
  obtain ⟨s', e, v, e2, k⟩ := s.get h
  subst e2
  exact ⟨v, e, r d v H q (.refl j) k⟩
theorem ew_int {i : Int} (q : Q (.int i)) : EW B env (tC (.int i)) Q := fun O σ H j s R r => r _ _ H q (.refl j) (.int i)
theorem ew_bl {b : Bool} (q : Q (.bool b)) : EW B env (tC (.bl b)) Q := fun O σ H j s R r => r _ _ H q (.refl j) (.bl b)
theorem ew_str {x : Str} (q : Q (.str x)) : EW B env (tC (.str x)) Q := fun O σ H j s R r => r _ _ H q (.refl j) (.str x)
theorem ew_non (q : Q .none) : EW B env (tC .non) Q := fun O σ H j s R r => r _ _ H q (.refl j) .non
theorem ea_nil {Q : List Ent → Prop} (q : Q []) : EA B env tNil Q := fun O σ H j s R r => r [] [] H q (.refl j) trivial
theorem ea_cons {tr : TA} {Q : List Ent → Prop} (h : EW B env te fun d => EA B env tr fun es => Q (.dat d :: es)) : EA B env (tCons te tr) Q := fun O σ H j s R r =>
  h O σ H j s _ fun d v H2 q g k => q O σ H2 g.2 (s.gro g) _ fun es vs H3 q3 g3 k3 => r _ _ H3 q3 (g.trans g3) ⟨⟨v, rfl, k.gro g3⟩, k3⟩
/-- an argument that is handed on as it is: the source -/
theorem ea_raw {i : Nat} {v : V} {tr : TA} {Q : List Ent → Prop} (e : env[i]? = some (.raw v)) (h : EA B env tr fun es => Q (.raw v :: es)) : EA B env (tCons (tVar i) tr) Q := fun O σ H j s R r => by
  obtain ⟨s', e1, k⟩ := s.get e
  cases (show s' = some v from k)
  exact ⟨v, e1, h O σ H j s _ fun es vs H3 q3 g3 k3 => r _ _ H3 q3 g3 ⟨rfl, k3⟩⟩
def dats (ds : List PyData) : List Ent := ds.map .dat
theorem slots_dats {W : Addr → Prop} {O : Lk} {H : Hp} : ∀ {vs : List V} {ds : List PyData}, Slots W O H (vs.map some) (dats ds) → DqA W H vs ds
  | [], [], _ => .nil
  | v :: vs, d :: ds, h => by
    obtain ⟨⟨v', e, k⟩, h2⟩ := h
    cases e
    exact .cons k (slots_dats h2)
  | [], _ :: _, h => h.elim
  | _ :: _, [], h => h.elim
/-- the arguments are data -/
def AllD (Q : List PyData → Prop) (es : List Ent) : Prop := ∃ ds, es = dats ds ∧ Q ds
theorem AllD.nil {Q : List PyData → Prop} (q : Q []) : AllD Q [] := ⟨[], rfl, q⟩
theorem AllD.cons {Q : List PyData → Prop} {d : PyData} {es : List Ent} (h : AllD (fun ds => Q (d :: ds)) es) : AllD Q (.dat d :: es) := by
  obtain ⟨ds, e, q⟩ := h
  subst e
  exact ⟨d :: ds, rfl, q⟩
theorem ew_tup {t : TA} (h : EA B env t (AllD fun ds => ds.length ≤ 100000 ∧ Q (.tuple ds))) : EW B env (tTup t) Q := fun O σ H j s R r =>
  h O σ H j s _ fun es vs H2 ⟨ds, e, hl, q⟩ g k => by
    subst e
    have kk := slots_dats k
    refine ⟨by rw [kk.len]; exact Nat.le_trans hl (by decide), fun p hp => ?_⟩
    have g2 : Gro (B.lock O) H2 (upd H2 p (.tup vs)) := .new g.2 hp
    exact r _ _ _ q (g.trans g2) (.tup (Fr.fresh g.2 hp) upd_same (kk.gro g2))
theorem ew_lst {t : TA} (h : EA B env t (AllD fun ds => ds.length ≤ 100000 ∧ Q (.list ds))) : EW B env (tLst t) Q := fun O σ H j s R r =>
  h O σ H j s _ fun es vs H2 ⟨ds, e, hl, q⟩ g k => by
    subst e
    have kk := slots_dats k
    refine ⟨by rw [kk.len]; exact Nat.le_trans hl (by decide), fun p hp => ?_⟩
    have g2 : Gro (B.lock O) H2 (upd H2 p (.lst vs)) := .new g.2 hp
    exact r _ _ _ q (g.trans g2) (.lst (Fr.fresh g.2 hp) upd_same (kk.gro g2))

/-! operations by data -/
def OD (r : R2) (x y : PyData) (Q : PyData → Prop) : Prop := ∀ (F : Fr) (H : Hp) (u v : V), F.J H → Dq F.W H u x → Dq F.W H v y → ∀ R : VK, (∀ d w H2, Q d → Gro F H H2 → Dq F.W H2 w d → R w H2) → r u v H R
def UD (r : V → Hp → VK → Prop) (x : PyData) (Q : PyData → Prop) : Prop := ∀ (F : Fr) (H : Hp) (u : V), F.J H → Dq F.W H u x → ∀ R : VK, (∀ d w H2, Q d → Gro F H H2 → Dq F.W H2 w d → R w H2) → r u H R
def CD (r : List V → Hp → VK → Prop) (ds : List PyData) (Q : PyData → Prop) : Prop := ∀ (F : Fr) (H : Hp) (vs : List V), F.J H → DqA F.W H vs ds → ∀ R : VK, (∀ d w H2, Q d → Gro F H H2 → Dq F.W H2 w d → R w H2) → r vs H R
theorem ew_op {r : R2} (h : EW B env ta fun x => EW B env tb fun y => OD r x y Q) : EW B env (tOp r ta tb) Q := fun O σ H j s R k =>
  h O σ H j s _ fun x u H2 q g kx => q O σ H2 g.2 (s.gro g) _ fun y v H3 q3 g3 ky => q3 (B.lock O) H3 u v g3.2 (kx.gro g3) ky R fun d w H4 qd g4 kd => k d w H4 qd ((g.trans g3).trans g4) kd
theorem ew_un {r : V → Hp → VK → Prop} (h : EW B env ta fun x => UD r x Q) : EW B env (tUn r ta) Q := fun O σ H j s R k =>
  h O σ H j s _ fun x u H2 q g kx => q (B.lock O) H2 u g.2 kx R fun d w H4 qd g4 kd => k d w H4 qd (g.trans g4) kd
theorem ew_cb {r : List V → Hp → VK → Prop} {t : TA} (h : EA B env t (AllD fun ds => CD r ds Q)) : EW B env (tCB r t) Q := fun O σ H j s R k =>
  h O σ H j s _ fun es vs H2 ⟨ds, e, q⟩ g kx => by
    subst e
    exact q (B.lock O) H2 vs g.2 (slots_dats kx) R fun d w H4 qd g4 kd => k d w H4 qd (g.trans g4) kd
theorem od_I0 {f : Int → Int → Int} {x y : PyData} (h : ∃ i j, x = .int i ∧ y = .int j ∧ Q (.int (f i j))) : OD (rI0 fun i j => V.int (f i j)) x y Q := fun F H u v j kx ky R r => by
  obtain ⟨i, k, rfl, rfl, q⟩ := h
  cases kx
  cases ky
  exact ⟨i, k, rfl, rfl, r _ _ H q (.refl j) (.int _)⟩
theorem od_I {f : Int → Int → Int} {C : Int → Int → Prop} {x y : PyData} (h : ∃ i j, x = .int i ∧ y = .int j ∧ C i j ∧ Q (.int (f i j))) : OD (rI C fun i j => V.int (f i j)) x y Q := fun F H u v j kx ky R r => by
  obtain ⟨i, k, rfl, rfl, c, q⟩ := h
  cases kx
  cases ky
  exact ⟨i, k, rfl, rfl, c, r _ _ H q (.refl j) (.int _)⟩
theorem od_B0 {f : Int → Int → Bool} {x y : PyData} (h : ∃ i j, x = .int i ∧ y = .int j ∧ Q (.bool (f i j))) : OD (rI0 fun i j => V.bl (f i j)) x y Q := fun F H u v j kx ky R r => by
  obtain ⟨i, k, rfl, rfl, q⟩ := h
  cases kx
  cases ky
  exact ⟨i, k, rfl, rfl, r _ _ H q (.refl j) (.bl _)⟩
theorem ud_I {f : Int → Int} {x : PyData} (h : ∃ i, x = .int i ∧ Q (.int (f i))) : UD (rU fun i => V.int (f i)) x Q := fun F H u j kx R r => by
  obtain ⟨i, rfl, q⟩ := h
  cases kx
  exact ⟨i, rfl, r _ _ H q (.refl j) (.int _)⟩
theorem od_eqI {x y : PyData} (h : ∃ i j, x = .int i ∧ y = .int j ∧ Q (.bool (decide (i = j)))) : OD rEq x y Q := fun F H u v j kx ky R r => by
  obtain ⟨i, k, rfl, rfl, q⟩ := h
  cases kx
  cases ky
  refine ⟨rfl, ?_⟩
  have e : decide (V.int i = V.int k) = decide (i = k) := by rw [decide_eq_decide]; constructor <;> intro z <;> first | (cases z; rfl) | rw [z]
  rw [e]
  exact r _ _ H q (.refl j) (.bl _)
theorem od_neI {x y : PyData} (h : ∃ i j, x = .int i ∧ y = .int j ∧ Q (.bool (!decide (i = j)))) : OD rNe x y Q := fun F H u v j kx ky R r => by
  obtain ⟨i, k, rfl, rfl, q⟩ := h
  cases kx
  cases ky
  refine ⟨rfl, ?_⟩
  have e : decide (V.int i = V.int k) = decide (i = k) := by rw [decide_eq_decide]; constructor <;> intro z <;> first | (cases z; rfl) | rw [z]
  rw [e]
  exact r _ _ H q (.refl j) (.bl _)
theorem od_eqS {x y : PyData} (h : ∃ i j, x = .str i ∧ y = .str j ∧ Q (.bool (decide (i = j)))) : OD rEq x y Q := fun F H u v j kx ky R r => by
  obtain ⟨i, k, rfl, rfl, q⟩ := h
  cases kx
  cases ky
  refine ⟨rfl, ?_⟩
  have e : decide (V.str i = V.str k) = decide (i = k) := by rw [decide_eq_decide]; constructor <;> intro z <;> first | (cases z; rfl) | rw [z]
  rw [e]
  exact r _ _ H q (.refl j) (.bl _)
theorem od_neS {x y : PyData} (h : ∃ i j, x = .str i ∧ y = .str j ∧ Q (.bool (!decide (i = j)))) : OD rNe x y Q := fun F H u v j kx ky R r => by
  obtain ⟨i, k, rfl, rfl, q⟩ := h
  cases kx
  cases ky
  refine ⟨rfl, ?_⟩
  have e : decide (V.str i = V.str k) = decide (i = k) := by rw [decide_eq_decide]; constructor <;> intro z <;> first | (cases z; rfl) | rw [z]
  rw [e]
  exact r _ _ H q (.refl j) (.bl _)
theorem at_map {xs : List V} {ds : List PyData} {W : Addr → Prop} {H : Hp} (k : DqA W H xs ds) {i : Int} {d : PyData} (e : atI ds i = some d) : ∃ v, atI xs i = some v ∧ Dq W H v d := by
  unfold atI at e ⊢
  rw [k.len]
  cases hq : ixN ds.length i with
  | none => rw [hq] at e; cases e
  | some n =>
    rw [hq] at e
    exact k.get e
/-- t[i], a tuple or a list -/
theorem od_ixT {K : PySem.W.Frag} {x y : PyData} (h : ∃ ds i d, x = .tuple ds ∧ y = .int i ∧ atI ds i = some d ∧ Q d) : OD (rIxT K) x y Q := fun F H u v j kx ky R r => by
  obtain ⟨ds, i, d, rfl, rfl, e, q⟩ := h
  cases ky
  cases kx with
  | tup w hs ha =>
    obtain ⟨z, e2, kz⟩ := at_map ha e
    exact ⟨_, _, i, z, rfl, rfl, SqT.of hs, e2, r d z H q (.refl j) kz⟩
theorem od_ixL {K : PySem.W.Frag} {x y : PyData} (h : ∃ ds i d, x = .list ds ∧ y = .int i ∧ atI ds i = some d ∧ Q d) : OD (rIxL K) x y Q := fun F H u v j kx ky R r => by
  obtain ⟨ds, i, d, rfl, rfl, e, q⟩ := h
  cases ky
  cases kx with
  | lst w hs ha =>
    obtain ⟨z, e2, kz⟩ := at_map ha e
    exact ⟨_, _, i, z, rfl, rfl, SqL.of hs, e2, r d z H q (.refl j) kz⟩
def itemsOf : PyData → Option (List PyData)
  | .list ds => some ds
  | .tuple ds => some ds
  | _ => none
theorem od_ix {K : PySem.W.Frag} {x y : PyData} (h : ∃ ds i d, itemsOf x = some ds ∧ y = .int i ∧ atI ds i = some d ∧ Q d) : OD (rIx K) x y Q := fun F H u v j kx ky R r => by
  obtain ⟨ds, i, d, hx, rfl, e, q⟩ := h
  cases x with
  | list xs => cases hx; exact .inl (od_ixL ⟨ds, i, d, rfl, rfl, e, q⟩ F H u v j kx ky R r)
  | tuple xs => cases hx; exact .inr (.inl (od_ixT ⟨ds, i, d, rfl, rfl, e, q⟩ F H u v j kx ky R r))
  | none => cases hx
  | bool _ => cases hx
  | int _ => cases hx
  | str _ => cases hx
  | dict _ => cases hx
end

/-! ### tests -/
section
variable {B : Fr} {env : List Ent} {te ta tb : TE} {tt tu : TT} {Q : Bool → Prop}
theorem tw_test (h : EW B env te fun d => ∃ b, d = .bool b ∧ Q b) : TW B env (tTest te) Q := fun O σ H j s R r =>
  h O σ H j s _ fun d v H2 ⟨b, e, q⟩ g k => by
    subst e
    cases k
    exact ⟨b, rfl, r b H2 q g⟩
theorem tw_B (h : EW B env te fun d => ∃ b, d = .bool b ∧ Q b) : TW B env (tB te) Q := tw_test h
theorem tw_and (h : TW B env tt fun b => if b = true then TW B env tu Q else Q false) : TW B env (tAnd tt tu) Q := fun O σ H j s R r =>
  h O σ H j s _ fun b H2 q g => by
    cases b with
    | true => exact q O σ H2 g.2 (s.gro g) R fun b H3 q3 g3 => r b H3 q3 (g.trans g3)
    | false => exact r false H2 q g
theorem tw_or (h : TW B env tt fun b => if b = true then Q true else TW B env tu Q) : TW B env (tOr tt tu) Q := fun O σ H j s R r =>
  h O σ H j s _ fun b H2 q g => by
    cases b with
    | false => exact q O σ H2 g.2 (s.gro g) R fun b H3 q3 g3 => r b H3 q3 (g.trans g3)
    | true => exact r true H2 q g
theorem tw_not (h : TW B env tt fun b => Q (!b)) : TW B env (tNot tt) Q := fun O σ H j s R r => h O σ H j s _ fun b H2 q g => r _ H2 q g
theorem tw_yes (h : Q true) : TW B env tYes Q := fun O σ H j s R r => r true H h (.refl j)
variable {P : PyData → Prop}
theorem ew_if (h : TW B env tt fun b => if b = true then EW B env ta P else EW B env tb P) : EW B env (tIf tt ta tb) P := fun O σ H j s R r =>
  h O σ H j s _ fun b H2 q g => by
    cases b with
    | true => exact q O σ H2 g.2 (s.gro g) R fun d v H3 q3 g3 k => r d v H3 q3 (g.trans g3) k
    | false => exact q O σ H2 g.2 (s.gro g) R fun d v H3 q3 g3 k => r d v H3 q3 (g.trans g3) k
theorem ew_isN (h : EW B env ta fun x => P (.bool (match x with | .none => true | _ => false))) : EW B env (tIsN ta) P := fun O σ H j s R r =>
  h O σ H j s _ fun d v H2 q g k => by
    cases k <;> exact r _ _ H2 q g (.bl _)
theorem ew_andV (h : EW B env ta fun x => ∃ b, x = .bool b ∧ if b = true then EW B env tb P else P (.bool false)) : EW B env (tAndV ta tb) P := fun O σ H j s R r =>
  h O σ H j s _ fun d v H2 ⟨b, e, q⟩ g k => by
    subst e
    cases k
    refine ⟨b, rfl, ?_⟩
    cases b with
    | true => exact q O σ H2 g.2 (s.gro g) R fun d v H3 q3 g3 k => r d v H3 q3 (g.trans g3) k
    | false => exact r _ _ H2 q g (.bl _)
theorem ew_orV (h : EW B env ta fun x => ∃ b, x = .bool b ∧ if b = true then P (.bool true) else EW B env tb P) : EW B env (tOrV ta tb) P := fun O σ H j s R r =>
  h O σ H j s _ fun d v H2 ⟨b, e, q⟩ g k => by
    subst e
    cases k
    refine ⟨b, rfl, ?_⟩
    cases b with
    | false => exact q O σ H2 g.2 (s.gro g) R fun d v H3 q3 g3 k => r d v H3 q3 (g.trans g3) k
    | true => exact r _ _ H2 q g (.bl _)
theorem ew_notV (h : EW B env ta fun x => ∃ b, x = .bool b ∧ P (.bool (!b))) : EW B env (tNotV ta) P := fun O σ H j s R r =>
  h O σ H j s _ fun d v H2 ⟨b, e, q⟩ g k => by
    subst e
    cases k
    exact ⟨b, rfl, r _ _ H2 q g (.bl _)⟩
end

/-! ### built-ins by data -/
section
variable {K : PySem.W.Frag} {Q : PyData → Prop} {ds : List PyData}
theorem cd_len (h : ∃ x xs, ds = [x] ∧ itemsOf x = some xs ∧ Q (.int xs.length)) : CD (fun vs H R => ∃ p ys, vs = [V.ref p] ∧ (SqL K H p ys ∨ SqT K H p ys) ∧ R (V.int ys.length) H) ds Q := fun F H vs j k R r => by
  obtain ⟨x, xs, rfl, hx, q⟩ := h
  cases k with
  | cons k1 k2 =>
    cases k2
    cases k1 with
    | lst w e ha =>
      cases hx
      refine ⟨_, _, rfl, .inl (SqL.of e), ?_⟩
      rw [ha.len]
      exact r _ _ H q (.refl j) (.int _)
    | tup w e ha =>
      cases hx
      refine ⟨_, _, rfl, .inr (SqT.of e), ?_⟩
      rw [ha.len]
      exact r _ _ H q (.refl j) (.int _)
    | non => cases hx
    | bl _ => cases hx
    | int _ => cases hx
    | str _ => cases hx
theorem cd_tuple (h : ∃ x xs, ds = [x] ∧ itemsOf x = some xs ∧ Q (.tuple xs)) : CD (fun vs H R => ∃ p ys, vs = [V.ref p] ∧ ((SqL K H p ys ∧ ∀ l : Addr, H l = none → R (V.ref l) (upd H l (HO.tup ys))) ∨ SqT K H p ys ∧ R (V.ref p) H)) ds Q := fun F H vs j k R r => by
  obtain ⟨x, xs, rfl, hx, q⟩ := h
  cases k with
  | cons k1 k2 =>
    cases k2
    cases k1 with
    | @lst _ vl _ w e ha =>
      cases hx
      refine ⟨_, _, rfl, .inl ⟨SqL.of e, fun l hl => ?_⟩⟩
      have g : Gro F H (upd H l (.tup vl)) := .new j hl
      exact r _ _ _ q g (.tup (Fr.fresh j hl) upd_same (ha.gro g))
    | tup w e ha =>
      cases hx
      exact ⟨_, _, rfl, .inr ⟨SqT.of e, r _ _ H q (.refl j) (.tup w e ha)⟩⟩
    | non => cases hx
    | bl _ => cases hx
    | int _ => cases hx
    | str _ => cases hx
theorem cd_list (h : ∃ x xs, ds = [x] ∧ itemsOf x = some xs ∧ Q (.list xs)) : CD (fun vs H R => ∃ p ys, vs = [V.ref p] ∧ (SqL K H p ys ∨ SqT K H p ys) ∧ ∀ l : Addr, H l = none → R (V.ref l) (upd H l (HO.lst ys))) ds Q := fun F H vs j k R r => by
  obtain ⟨x, xs, rfl, hx, q⟩ := h
  cases k with
  | cons k1 k2 =>
    cases k2
    cases k1 with
    | @lst _ vl _ w e ha =>
      cases hx
      refine ⟨_, _, rfl, .inl (SqL.of e), fun l hl => ?_⟩
      have g : Gro F H (upd H l (.lst vl)) := .new j hl
      exact r _ _ _ q g (.lst (Fr.fresh j hl) upd_same (ha.gro g))
    | @tup _ vl _ w e ha =>
      cases hx
      refine ⟨_, _, rfl, .inr (SqT.of e), fun l hl => ?_⟩
      have g : Gro F H (upd H l (.lst vl)) := .new j hl
      exact r _ _ _ q g (.lst (Fr.fresh j hl) upd_same (ha.gro g))
    | non => cases hx
    | bl _ => cases hx
    | int _ => cases hx
    | str _ => cases hx
theorem cd_abs (h : ∃ i, ds = [.int i] ∧ Q (.int (if i < 0 then -i else i))) : CD (fun vs H R => ∃ i, vs = [V.int i] ∧ R (V.int (if i < 0 then -i else i)) H) ds Q := fun F H vs j k R r => by
  obtain ⟨i, rfl, q⟩ := h
  cases k with
  | cons k1 k2 =>
    cases k2
    cases k1
    exact ⟨i, rfl, r _ _ H q (.refl j) (.int _)⟩
theorem cd_int1 (h : ∃ i, ds = [.int i] ∧ Q (.int i)) : CD (fun vs H R => (∃ i, vs = [V.int i] ∧ R (V.int i) H) ∨ ∃ k, vs = [V.bl k] ∧ R (V.int (if k = true then 1 else 0)) H) ds Q := fun F H vs j k R r => by
  obtain ⟨i, rfl, q⟩ := h
  cases k with
  | cons k1 k2 =>
    cases k2
    cases k1
    exact .inl ⟨i, rfl, r _ _ H q (.refl j) (.int _)⟩
theorem cd_max2 (h : ∃ i k, ds = [.int i, .int k] ∧ Q (.int (if k > i then k else i))) : CD (fun vs H R => ∃ i j, vs = [V.int i, V.int j] ∧ R (V.int (if j > i then j else i)) H) ds Q := fun F H vs j k R r => by
  obtain ⟨a, b, rfl, q⟩ := h
  cases k with
  | cons k1 k2 =>
    cases k2 with
    | cons k2 k3 =>
      cases k3
      cases k1
      cases k2
      exact ⟨a, b, rfl, r _ _ H q (.refl j) (.int _)⟩
theorem cd_gcd (h : ∃ a b : Int, ds = [.int a, .int b] ∧ Q (.int ((Nat.gcd a.natAbs b.natAbs : Nat) : Int))) : CD rGcd ds Q := fun F H vs j k R r => by
  obtain ⟨a, b, rfl, q⟩ := h
  cases k with
  | cons k1 k2 =>
    cases k2 with
    | cons k2 k3 =>
      cases k3
      cases k1
      cases k2
      exact ⟨a, b, rfl, r _ _ H q (.refl j) (.int _)⟩
theorem cd_sum (h : ∃ ns : List Int, ds = [.list (ns.map PyData.int)] ∧ Q (.int ns.sum)) : CD (rSum K) ds Q := fun F H vs j k R r => by
  obtain ⟨ns, rfl, q⟩ := h
  cases k with
  | cons k1 k2 =>
    cases k2
    cases k1 with
    | lst w e ha =>
      have z := ha.ints
      subst z
      exact ⟨_, ns, rfl, SqL.of e, r _ _ H q (.refl j) (.int _)⟩
theorem cd_all (h : ∃ ns : List Bool, ds = [.list (ns.map PyData.bool)] ∧ Q (.bool (ns.all id))) : CD (rAll K) ds Q := fun F H vs j k R r => by
  obtain ⟨ns, rfl, q⟩ := h
  cases k with
  | cons k1 k2 =>
    cases k2
    cases k1 with
    | lst w e ha =>
      have z := ha.bools
      subst z
      exact ⟨_, ns, rfl, SqL.of e, r _ _ H q (.refl j) (.bl _)⟩
theorem od_cat {x y : PyData} (h : ∃ xs ys, x = .list xs ∧ y = .list ys ∧ xs.length + ys.length ≤ 100000 ∧ Q (.list (xs ++ ys))) : OD rCat x y Q := fun F H u v j kx ky R r => by
  obtain ⟨xs, ys, rfl, rfl, hl, q⟩ := h
  cases kx with
  | @lst _ vl _ w e ha =>
    cases ky with
    | @lst _ ul _ w2 e2 hb =>
      refine ⟨_, _, _, _, rfl, rfl, e, e2, ?_, fun p hp => ?_⟩
      · rw [ha.len, hb.len]; exact Nat.le_trans hl (by decide)
      · have g : Gro F H (upd H p (.lst (vl ++ ul))) := .new j hp
        exact r _ _ _ q g (.lst (Fr.fresh j hp) upd_same ((ha.append hb).gro g))
theorem od_catT {x y : PyData} (h : ∃ xs ys, x = .tuple xs ∧ y = .tuple ys ∧ xs ≠ [] ∧ xs.length + ys.length ≤ 100000 ∧ Q (.tuple (xs ++ ys))) : OD (rCatT K) x y Q := fun F H u v j kx ky R r => by
  obtain ⟨xs, ys, rfl, rfl, h0, hl, q⟩ := h
  cases kx with
  | @tup _ vl _ w e ha =>
    cases ky with
    | @tup _ ul _ w2 e2 hb =>
      have l1 := ha.len
      have l2 := hb.len
      refine ⟨_, _, _, _, rfl, rfl, SqT.of e, SqT.of e2, ?_, ?_, fun z => ?_, fun z p hp => ?_⟩
      · intro z; subst z; exact h0 (List.length_eq_zero_iff.mp (by simpa using l1.symm))
      · rw [l1, l2]; exact Nat.le_trans hl (by decide)
      · subst z
        have z2 : ys = [] := List.length_eq_zero_iff.mp (by simpa using l2.symm)
        subst z2
        rw [List.append_nil] at q
        exact r _ _ _ q (.refl j) (.tup w e ha)
      · have g : Gro F H (upd H p (.tup (vl ++ ul))) := .new j hp
        exact r _ _ _ q g (.tup (Fr.fresh j hp) upd_same ((ha.append hb).gro g))
end

/-! ### calls -/
def spG (m : Fr → List Ent → (PyData → Prop) → Prop) : Sp := fun vs H Q _ => ∃ (B : Fr) (O : Lk) (es : List Ent) (R : PyData → Prop), m B es R ∧ owned es = [] ∧ (B.lock O).J H ∧ Slots (B.lock O).W O H (vs.map some) es ∧
  ∀ d v H2, R d → Gro (B.lock O) H H2 → Dq (B.lock O).W H2 v d → Q v H2
def Plain : List Ent → Prop := fun es => owned es = []
def PlainE : Ent → Prop
  | .own _ _ => False
  | _ => True
theorem owned_dat {d : PyData} {es : List Ent} (h : owned es = []) : owned (.dat d :: es) = [] := h
theorem ew_call {B : Fr} {env : List Ent} {t : TA} {m : Fr → List Ent → (PyData → Prop) → Prop} {E : XK} {Q : PyData → Prop} (h : EA B env t fun es => owned es = [] ∧ m B es Q) : EW B env (tCall (spG m) [] E t) Q := fun O σ H j s R r =>
  h O σ H j s _ fun es vs H2 ⟨no, hm⟩ g k => by
    show spG m (vs ++ []) H2 R E
    rw [List.append_nil]
    exact ⟨B, O, es, Q, hm, no, g.2, k, fun d v H3 q3 g3 k3 => r d v H3 q3 (g.trans g3) k3⟩

theorem datNo {d : PyData} : ∀ a ds, Ent.dat d ≠ .own a ds := fun _ _ h => nomatch h
theorem rawNo {v : V} : ∀ a ds, Ent.raw v ≠ .own a ds := fun _ _ h => nomatch h
/-! ### statements -/
structure St (B : Fr) (Z : Lk) (H0 : Hp) (U : Addr → Prop) (env : List Ent) (O : Lk) (σ : L2.St) (H : Hp) : Prop where
  j : (B.lock O).J H
  sl : Slots (B.lock O).W O H σ env
  nd : (owned env).Nodup
  z : ∀ a o, Z a = some o → O a = some o ∧ a ∉ owned env
  keep : ∀ a o, ¬ B.W a → Z a = none → ¬ U a → H0 a = some o → H a = some o
  dom : ∀ a, O a ≠ none → Z a ≠ none ∨ U a ∨ H0 a = none
def Rt (B : Fr) (Z : Lk) (H0 : Hp) (U : Addr → Prop) (H : Hp) : Prop := (B.lock Z).J H ∧ ∀ a o, ¬ B.W a → Z a = none → ¬ U a → H0 a = some o → H a = some o
structure Post where
  N : List Ent → Prop
  R : PyData → Prop
  B : List Ent → Prop := fun _ => False
  C : List Ent → Prop := fun _ => False
structure EndOk (B : Fr) (Z : Lk) (H0 : Hp) (U : Addr → Prop) (P : Post) (D : Ends) : Prop where
  nx : ∀ env O σ H, P.N env → St B Z H0 U env O σ H → D.nx σ H
  rt : ∀ d v H, P.R d → Rt B Z H0 U H → Dq (B.lock Z).W H v d → D.rt v H
  bk : ∀ env O σ H, P.B env → St B Z H0 U env O σ H → D.bk σ H
  ct : ∀ env O σ H, P.C env → St B Z H0 U env O σ H → D.ct σ H
def SW (B : Fr) (env : List Ent) (ts : TS) (P : Post) : Prop := ∀ (Z : Lk) (H0 : Hp) (U : Addr → Prop) (O : Lk) (σ : L2.St) (H : Hp) (D : Ends), St B Z H0 U env O σ H → EndOk B Z H0 U P D → ts D σ H
section
variable {B : Fr} {Z : Lk} {H0 H H2 : Hp} {U : Addr → Prop} {env : List Ent} {O : Lk} {σ : L2.St} {P : Post} {D : Ends}
theorem St.gro (s : St B Z H0 U env O σ H) (g : Gro (B.lock O) H H2) : St B Z H0 U env O σ H2 :=
  ⟨g.2, s.sl.gro g, s.nd, s.z, fun a o hb hz hu h0 => by
    have e := s.keep a o hb hz hu h0
    cases q : O a with
    | none => exact g.1 a o (fun w => w.elim hb (fun x => x q)) e
    | some o' =>
      have e1 := (s.j.2 a o' q).2
      rw [e] at e1
      cases e1
      exact (g.2.2 a o q).2, s.dom⟩
theorem St.rt (s : St B Z H0 U env O σ H) : Rt B Z H0 U H := ⟨⟨s.j.1, fun a o e => s.j.2 a o (s.z a o e).1⟩, s.keep⟩
theorem St.wz (s : St B Z H0 U env O σ H) {a : Addr} (h : ¬ (B.lock O).W a) : ¬ (B.lock Z).W a := fun w => h (by
  rcases w with w | w
  · exact .inl w
  · right
    cases q : Z a with
    | none => exact absurd q w
    | some o => rw [(s.z a o q).1]; exact nofun)
theorem St.out (s : St B Z H0 U env O σ H) {v : V} {d : PyData} (k : Dq (B.lock O).W H v d) : Dq (B.lock Z).W H v d := Dq.to (fun a o w e => ⟨s.wz w, e⟩) d v k
/-- a slot is stored: data -/
theorem St.set (s : St B Z H0 U env O σ H) (i : Nat) {v : V} {d : PyData} (k : Dq (B.lock O).W H v d) : St B Z H0 U (env.set i (.dat d)) O (σ.set i (some v)) H :=
  ⟨s.j, s.sl.set i ⟨v, rfl, k⟩, owned_set_nd i datNo s.nd, fun a o e => ⟨(s.z a o e).1, fun m => (s.z a o e).2 (owned_set_sub i datNo a m)⟩, s.keep, s.dom⟩
theorem St.sraw (s : St B Z H0 U env O σ H) (i : Nat) (v : V) : St B Z H0 U (env.set i (.raw v)) O (σ.set i (some v)) H :=
  ⟨s.j, s.sl.set i rfl, owned_set_nd i rawNo s.nd, fun a o e => ⟨(s.z a o e).1, fun m => (s.z a o e).2 (owned_set_sub i rawNo a m)⟩, s.keep, s.dom⟩
theorem sw_seq {t u : TS} (h : SW B env t ⟨fun e => SW B e u P, P.R, P.B, P.C⟩) : SW B env (tSeq t u) P := fun Z H0 U O σ H D s e =>
  h Z H0 U O σ H _ s ⟨fun env2 O2 σ2 H2 hn s2 => hn Z H0 U O2 σ2 H2 D s2 e, e.rt, e.bk, e.ct⟩
theorem sw_set {i : Nat} {te : TE} (h : EW B env te fun d => P.N (env.set i (.dat d))) : SW B env (tAsg te (gName i)) P := fun Z H0 U O σ H D s e =>
  h O σ H s.j s.sl _ fun d v H2 q g k => e.nx _ O _ H2 q ((s.gro g).set i k)
theorem sw_ret {te : TE} (h : EW B env te P.R) : SW B env (tRet te) P := fun Z H0 U O σ H D s e =>
  h O σ H s.j s.sl _ fun d v H2 q g k => e.rt d v H2 q (s.gro g).rt ((s.gro g).out k)
theorem sw_retN (h : P.R .none) : SW B env tRetN P := fun Z H0 U O σ H D s e => e.rt .none .non H h s.rt .non
theorem sw_expr {te : TE} (h : EW B env te fun _ => P.N env) : SW B env (tDrop te) P := fun Z H0 U O σ H D s e =>
  h O σ H s.j s.sl _ fun d v H2 q g k => e.nx env O σ H2 q (s.gro g)
theorem sw_nx (h : P.N env) : SW B env tNext P := fun Z H0 U O σ H D s e => e.nx env O σ H h s
theorem sw_bk (h : P.B env) : SW B env tBreak P := fun Z H0 U O σ H D s e => e.bk env O σ H h s
theorem sw_ct (h : P.C env) : SW B env tCont P := fun Z H0 U O σ H D s e => e.ct env O σ H h s
theorem sw_if {tt : TT} {t u : TS} (h : TW B env tt fun b => if b = true then SW B env t P else SW B env u P) : SW B env (tIfS tt t u) P := fun Z H0 U O σ H D s e =>
  h O σ H s.j s.sl _ fun b H2 q g => by
    cases b with
    | true => exact q Z H0 U O σ H2 D (s.gro g) e
    | false => exact q Z H0 U O σ H2 D (s.gro g) e
theorem SW.mono {P' : Post} {ts : TS} (h : SW B env ts P) (n : ∀ e, P.N e → P'.N e) (r : ∀ d, P.R d → P'.R d) (b : ∀ e, P.B e → P'.B e) (c : ∀ e, P.C e → P'.C e) : SW B env ts P' := fun Z H0 U O σ H D s e =>
  h Z H0 U O σ H D s ⟨fun v O σ H q => e.nx v O σ H (n v q), fun d v H q => e.rt d v H (r d q), fun v O σ H q => e.bk v O σ H (b v q), fun v O σ H q => e.ct v O σ H (c v q)⟩
/-- a list of one's own is from now on data -/
theorem sw_freeze {i : Nat} {a : Addr} {ds : List PyData} {ts : TS} (hi : env[i]? = some (.own a ds)) (h : SW B (env.set i (.dat (.list ds))) ts P) : SW B env ts P := fun Z H0 U O σ H D s e => by
  obtain ⟨c, e1, e2, vs, e3, k⟩ := s.sl.get hi
  subst e2
  have hin : a ∈ owned env := owned_get hi
  have hz : Z a = none := by
    cases q : Z a with
    | none => rfl
    | some o => exact absurd hin (s.z a o q).2
  let O2 : Lk := fun b => if b = a then none else O b
  have o2 : ∀ b, b ≠ a → O2 b = O b := fun b hb => if_neg hb
  have o2a : O2 a = none := if_pos rfl
  have sub : ∀ b o, O2 b = some o → b ≠ a ∧ O b = some o := fun b o q => by
    by_cases hb : b = a
    · subst hb; rw [o2a] at q; cases q
    · exact ⟨hb, (o2 b hb).symm.trans q⟩
  have wk : ∀ b, ¬ (B.lock O).W b → ¬ (B.lock O2).W b := fun b w w2 => w (w2.elim .inl fun x => .inr (by
    cases q : O2 b with
    | none => exact absurd q x
    | some o => rw [(sub b o q).2]; exact nofun))
  have j2 : (B.lock O2).J H := ⟨s.j.1, fun b o q => s.j.2 b o (sub b o q).2⟩
  have wa : ¬ (B.lock O2).W a := fun w => w.elim (s.j.2 a _ e3).1 fun x => x o2a
  have kk : Dq (B.lock O2).W H (.ref a) (.list ds) := .lst wa (s.j.2 a _ e3).2 (DqA.to (fun b o w q => ⟨wk b w, q⟩) ds vs k)
  have own2 : ∀ b, b ∈ owned (env.set i (.dat (.list ds))) → b ≠ a := by
    have : ∀ (env : List Ent) (i : Nat), env[i]? = some (.own a ds) → (owned env).Nodup → a ∉ owned (env.set i (.dat (.list ds))) := by
      intro env
      induction env with
      | nil => intro i hi; simp at hi
      | cons c r ih =>
        intro i hi nd
        cases i with
        | zero =>
          simp at hi
          subst hi
          exact (List.nodup_cons.mp nd).1
        | succ i =>
          have hi' : r[i]? = some (.own a ds) := by simpa using hi
          cases c with
          | own b es =>
            intro z
            rcases List.mem_cons.mp (show a ∈ b :: owned (r.set i _) from z) with q | q
            · subst q; exact (List.nodup_cons.mp nd).1 (owned_get hi')
            · exact ih i hi' (List.nodup_cons.mp nd).2 q
          | non => exact ih i hi' nd
          | dat d => exact ih i hi' nd
          | raw v => exact ih i hi' nd
    intro b hb q
    subst q
    exact this env i hi s.nd hb
  refine h Z H0 U O2 σ H D ⟨j2, ?_, owned_set_nd i datNo s.nd, fun b o q => ?_, s.keep, fun b q => ?_⟩ e
  · have q1 : Slots (B.lock O2).W O H σ (env.set i (.dat (.list ds))) := by
      have q0 : Slots (B.lock O2).W O H σ env := s.sl.to (fun b o w q => ⟨wk b w, q⟩) fun _ _ => rfl
      have q1 := q0.set i (s := some (.ref a)) (e := .dat (.list ds)) ⟨_, rfl, kk⟩
      have es : σ.set i (some (.ref a)) = σ := by
        obtain ⟨hl, he⟩ := List.getElem?_eq_some_iff.mp e1
        conv => rhs; rw [← List.set_getElem_self hl]
        rw [he]
      rw [es] at q1
      exact q1
    exact q1.to (fun b o w q => ⟨w, q⟩) fun b hb => o2 b (own2 b hb)
  · have n : b ≠ a := fun z => by subst z; rw [hz] at q; cases q
    exact ⟨(o2 b n).trans (s.z b o q).1, fun m => (s.z b o q).2 (owned_set_sub i datNo b m)⟩
  · cases q2 : O2 b with
    | none => exact absurd q2 q
    | some o => exact s.dom b (by rw [(sub b o q2).2]; exact nofun)
/-- x = a list that is new: one's own -/
theorem sw_new {i : Nat} {t : TA} (h : EA B env t (AllD fun ds => ds.length ≤ 100000 ∧ ∀ a, P.N (env.set i (.own a ds)))) : SW B env (tAsg (tLst t) (gName i)) P := fun Z H0 U O σ H D s e => by
  refine h O σ H s.j s.sl _ fun es vs H2 ⟨ds, e1, hl, q⟩ g k => ?_
  subst e1
  have kk := slots_dats k
  refine ⟨by rw [kk.len]; exact Nat.le_trans hl (by decide), fun p hp => ?_⟩
  have s2 := s.gro g
  have np : ¬ (B.lock O).W p := Fr.fresh g.2 hp
  have g2 : Gro (B.lock O) H2 (upd H2 p (.lst vs)) := .new g.2 hp
  have s3 := s2.gro g2
  let O2 : Lk := fun b => if b = p then some (.lst vs) else O b
  have o2 : ∀ b, b ≠ p → O2 b = O b := fun b hb => if_neg hb
  have o2p : O2 p = some (.lst vs) := if_pos rfl
  have opn : O p = none := by
    cases q : O p with
    | none => rfl
    | some o => exact absurd (Or.inr (by rw [q]; exact nofun)) np
  have npo : p ∉ owned env := fun m => (s.sl.own_in m) opn
  have jj : (B.lock O2).J (upd H2 p (.lst vs)) := ⟨s3.j.1, fun b o q => by
    by_cases hb : b = p
    · subst hb
      rw [o2p] at q
      cases q
      exact ⟨fun w => np (.inl w), upd_same⟩
    · rw [o2 b hb] at q
      exact s3.j.2 b o q⟩
  have wk : ∀ b, b ≠ p → ¬ (B.lock O).W b → ¬ (B.lock O2).W b := fun b hb w w2 => w (w2.elim .inl fun x => .inr (by rw [← o2 b hb]; exact x))
  have k3 : DqA (B.lock O2).W (upd H2 p (.lst vs)) vs ds := DqA.to (fun b o w q => ⟨wk b (ne_of_none q hp) w, by rw [upd_ne (ne_of_none q hp)]; exact q⟩) ds vs kk
  refine e.nx _ O2 _ _ (q p) ⟨jj, ?_, owned_set_own_nd i (.inl npo) s.nd, fun b o z => ?_, s3.keep, fun b z => ?_⟩
  · refine Slots.set i ?_ ⟨rfl, vs, o2p, k3⟩
    exact s2.sl.to (fun b o w q => ⟨wk b (ne_of_none q hp) w, by rw [upd_ne (ne_of_none q hp)]; exact q⟩) fun b hb => o2 b (fun z => npo (z ▸ hb))
  · have nb : b ≠ p := fun z2 => by
      subst z2
      rw [(s.z b o z).1] at opn
      cases opn
    refine ⟨(o2 b nb).trans (s.z b o z).1, fun m => ?_⟩
    rcases owned_set_own i b m with r | r
    · exact nb r
    · exact (s.z b o z).2 r
  · by_cases hb : b = p
    · subst hb
      cases q1 : H0 b with
      | none => exact .inr (.inr rfl)
      | some o =>
        by_cases hu : U b
        · exact .inr (.inl hu)
        · have zb : Z b = none := by
            cases q2 : Z b with
            | none => rfl
            | some o' => rw [(s.z b o' q2).1] at opn; cases opn
          have q3 := s2.keep b o (fun w => np (.inl w)) zb hu q1
          rw [hp] at q3
          cases q3
    · exact s.dom b (by rw [← o2 b hb]; exact z)
/-- x.append(e), x a list of one's own -/
theorem sw_append {i : Nat} {a : Addr} {ds : List PyData} {K : PySem.W.Frag} {te : TE} (hi : env[i]? = some (.own a ds)) (hl : ds.length < 100000) (h : EW B env te fun d => P.N (env.set i (.own a (ds ++ [d])))) :
    SW B env (tDrop (tBM K "list" rAppend (tVar i) (tCons te tNil))) P := fun Z H0 U O σ H D s e => by
  obtain ⟨c, e1, e2, vs, e3, k⟩ := s.sl.get hi
  subst e2
  refine ⟨_, e1, .inl ⟨rfl, _, SqL.of (s.j.2 a _ e3).2⟩, h O σ H s.j s.sl _ fun d v H2 q g kd => ?_⟩
  have s2 := s.gro g
  have hL := (g.2.2 a _ e3).2
  refine ⟨a, vs, v, rfl, rfl, hL, by rw [k.len]; exact Nat.lt_of_lt_of_le hl (by decide), ?_⟩
  have hin : a ∈ owned env := owned_get hi
  let O2 : Lk := fun b => if b = a then some (.lst (vs ++ [v])) else O b
  have o2 : ∀ b, b ≠ a → O2 b = O b := fun b hb => if_neg hb
  have o2a : O2 a = some (.lst (vs ++ [v])) := if_pos rfl
  have wiff : ∀ b, ¬ (B.lock O).W b → b ≠ a ∧ ¬ (B.lock O2).W b := fun b w => by
    have hb : b ≠ a := fun z => w (.inr (by rw [z, e3]; exact nofun))
    exact ⟨hb, fun w2 => w (w2.elim .inl fun x => .inr (by rw [← o2 b hb]; exact x))⟩
  have mv : ∀ b o, ¬ (B.lock O).W b → H2 b = some o → ¬ (B.lock O2).W b ∧ (upd H2 a (.lst (vs ++ [v]))) b = some o := fun b o w q => ⟨(wiff b w).2, by rw [upd_ne (wiff b w).1]; exact q⟩
  have nBa : ¬ B.W a := (s.j.2 a _ e3).1
  have jj : (B.lock O2).J (upd H2 a (.lst (vs ++ [v]))) := ⟨B.loc H2 _ (fun b w => upd_ne (fun z => nBa (z ▸ w))) s2.j.1, fun b o q => by
    by_cases hb : b = a
    · subst hb
      rw [o2a] at q
      cases q
      exact ⟨nBa, upd_same⟩
    · rw [o2 b hb] at q
      exact ⟨(s2.j.2 b o q).1, by rw [upd_ne hb]; exact (s2.j.2 b o q).2⟩⟩
  have k2 := k.gro g
  have k3 : DqA (B.lock O2).W (upd H2 a (.lst (vs ++ [v]))) (vs ++ [v]) (ds ++ [d]) := (DqA.to mv ds vs k2).append (.cons (Dq.to mv d v kd) .nil)
  have hz : Z a = none := by
    cases q : Z a with
    | none => rfl
    | some o => exact absurd hin (s.z a o q).2
  have es : σ.set i (some (.ref a)) = σ := by
    obtain ⟨hl, he⟩ := List.getElem?_eq_some_iff.mp e1
    conv => rhs; rw [← List.set_getElem_self hl]
    rw [he]
  refine e.nx _ O2 σ _ q ⟨jj, ?_, owned_set_own_nd i (.inr ⟨ds, hi⟩) s.nd, fun b o z => ?_, fun b o w zb u h0 => ?_, fun b z => ?_⟩
  · -- the slots
    have own1 : ∀ b, b ∈ owned (env.set i (.raw (.ref a))) → b ≠ a := by
      have : ∀ (env : List Ent) (i : Nat), env[i]? = some (.own a ds) → (owned env).Nodup → a ∉ owned (env.set i (.raw (.ref a))) := by
        intro env
        induction env with
        | nil => intro i hi; simp at hi
        | cons c r ih =>
          intro i hi nd
          cases i with
          | zero =>
            simp at hi
            subst hi
            exact (List.nodup_cons.mp nd).1
          | succ i =>
            have hi' : r[i]? = some (.own a ds) := by simpa using hi
            cases c with
            | own b es =>
              intro z
              rcases List.mem_cons.mp (show a ∈ b :: owned (r.set i _) from z) with q | q
              · subst q; exact (List.nodup_cons.mp nd).1 (owned_get hi')
              · exact ih i hi' (List.nodup_cons.mp nd).2 q
            | non => exact ih i hi' nd
            | dat d => exact ih i hi' nd
            | raw v => exact ih i hi' nd
      intro b hb q
      subst q
      exact this env i hi s.nd hb
    have q0 : Slots (B.lock O).W O H2 (σ.set i (some (.ref a))) (env.set i (.raw (.ref a))) := s2.sl.set i rfl
    have q1 : Slots (B.lock O2).W O2 (upd H2 a (.lst (vs ++ [v]))) (σ.set i (some (.ref a))) (env.set i (.raw (.ref a))) := q0.to mv fun b hb => o2 b (own1 b hb)
    have q2 := q1.set i (s := some (.ref a)) (e := .own a (ds ++ [d])) ⟨rfl, vs ++ [v], o2a, k3⟩
    rw [List.set_set, List.set_set, es] at q2
    exact q2
  · have nb : b ≠ a := fun z2 => by subst z2; rw [hz] at z; cases z
    refine ⟨(o2 b nb).trans (s.z b o z).1, fun m => ?_⟩
    rcases owned_set_own i b m with r | r
    · exact nb r
    · exact (s.z b o z).2 r
  · have q := s2.keep b o w zb u h0
    by_cases hb : b = a
    · subst hb
      rcases s.dom b (by rw [e3]; exact nofun) with r | r | r
      · exact absurd zb r
      · exact absurd r u
      · rw [h0] at r; cases r
    · rw [upd_ne hb]; exact q
  · by_cases hb : b = a
    · subst hb; exact s.dom b (by rw [e3]; exact nofun)
    · exact s.dom b (by rw [← o2 b hb]; exact z)
/-- return x, x a list of one's own -/
theorem sw_retOwn {i : Nat} {a : Addr} {ds : List PyData} (hi : env[i]? = some (.own a ds)) (h : P.R (.list ds)) : SW B env (tRet (tVar i)) P := by
  refine sw_freeze hi (sw_ret (ew_var (d := .list ds) ?_ h))
  have hl : i < env.length := (List.getElem?_eq_some_iff.mp hi).1
  rw [List.getElem?_set_self hl]
end
end Dl
end
section
set_option Elab.async false
set_option linter.all false
set_option maxRecDepth 100000
namespace Dl
open PySem L2 PySem.Spec PyProof.Rows RZ

/-! ### what is walked -/
def Good (W : Addr → Prop) (H2 H : Hp) : Prop := ∀ a o, ¬ W a → H2 a = some o → H a = some o
def Yl (W : Addr → Prop) (H2 : Hp) (ds : List PyData) (i : Nat) (H : Hp) (x : V) (H' : Hp) : Prop :=
  (∃ d, ds[i]? = some d ∧ H' = H ∧ Dq W H2 x d) ∨ (∃ T x1 x2 d1 d2, x = .ref T ∧ H T = none ∧ H' = upd H T (.tup [x1, x2]) ∧ ds[i]? = some (.tuple [d1, d2]) ∧ Dq W H2 x1 d1 ∧ Dq W H2 x2 d2)
abbrev Its (W : Addr → Prop) (H2 : Hp) (ds : List PyData) (J : It) : Prop := Walk J ds.length (Good W H2) (Yl W H2 ds)
def IT (B : Fr) (env : List Ent) (wi : TI) (Q : List PyData → Prop) : Prop := ∀ (O : Lk) (σ : L2.St) (H : Hp), (B.lock O).J H → Slots (B.lock O).W O H σ env → ∀ R : It → Hp → Prop,
  (∀ ds J H2, Q ds → Gro (B.lock O) H H2 → Its (B.lock O).W H2 ds J → R J H2) → wi σ H R
section
variable {B : Fr} {env : List Ent} {te : TE} {ta : TA} {Q : List PyData → Prop} {K : PySem.W.Frag}
theorem its_list {W : Addr → Prop} {H2 : Hp} {a : Addr} {xs : List V} {ds : List PyData} (w : ¬ W a) (e : H2 a = some (.lst xs)) (k : DqA W H2 xs ds) : Its W H2 ds (Itl K a) := by
  unfold Its
  rw [← k.len]
  refine (walk_list (K := K) (a := a) (xs := xs)).mono (fun H g => SqL.of (g a _ w e)) fun i H x H' hi g y => ?_
  obtain ⟨d, e1, q⟩ := k.getV y.2
  exact .inl ⟨d, e1, y.1, q⟩
theorem its_tup {W : Addr → Prop} {H2 : Hp} {a : Addr} {xs : List V} {ds : List PyData} (w : ¬ W a) (e : H2 a = some (.tup xs)) (k : DqA W H2 xs ds) : Its W H2 ds (Itt K a) := by
  unfold Its
  rw [← k.len]
  refine (walk_tup (K := K) (a := a) (xs := xs)).mono (fun H g => SqT.of (g a _ w e)) fun i H x H' hi g y => ?_
  obtain ⟨d, e1, q⟩ := k.getV y.2
  exact .inl ⟨d, e1, y.1, q⟩
theorem it_list (h : EW B env te fun d => ∃ ds, d = .list ds ∧ Q ds) : IT B env (iList K te) Q := fun O σ H j s R r =>
  h O σ H j s _ fun d v H2 ⟨ds, e, q⟩ g k => by
    subst e
    cases k with
    | lst w e ha => exact ⟨_, rfl, ⟨_, SqL.of e⟩, r ds _ H2 q g (its_list w e ha)⟩
theorem it_tup (h : EW B env te fun d => ∃ ds, d = .tuple ds ∧ Q ds) : IT B env (iTup K te) Q := fun O σ H j s R r =>
  h O σ H j s _ fun d v H2 ⟨ds, e, q⟩ g k => by
    subst e
    cases k with
    | tup w e ha => exact ⟨_, rfl, ⟨_, SqT.of e⟩, r ds _ H2 q g (its_tup w e ha)⟩
def rangeD (lo : Int) (n : Nat) : List PyData := (List.range n).map fun (i : Nat) => PyData.int (lo + (i : Int))
theorem its_range {W : Addr → Prop} {H2 : Hp} {lo : Int} {n : Nat} : Its W H2 (rangeD lo n) (Itr lo n) := by
  have hl : (rangeD lo n).length = n := by simp [rangeD]
  unfold Its
  rw [hl]
  refine (walk_range (lo := lo) (n := n)).mono (fun _ _ => trivial) fun i H x H' hi g y => ?_
  refine .inl ⟨.int (lo + i), ?_, y.1, ?_⟩
  · simp [rangeD, hi]
  · rw [y.2]; exact .int _
theorem it_range1 (h : EA B env ta (AllD fun es => ∃ n : Int, es = [.int n] ∧ -(2 ^ 62) ≤ n ∧ n < 2 ^ 62 ∧ Q (rangeD 0 n.toNat))) : IT B env (iRng1 ta) Q := fun O σ H j s R r =>
  h O σ H j s _ fun es vs H2 ⟨ds, e, n, e2, h1, h2, q⟩ g k => by
    subst e
    subst e2
    have kk := slots_dats k
    cases kk with
    | cons k1 k2 =>
      cases k2
      cases k1
      exact ⟨n, rfl, h1, h2, r _ _ H2 q g its_range⟩
def zipD (xs ys : List PyData) : List PyData := List.zipWith (fun a b => .tuple [a, b]) xs ys
theorem zipD_get {xs ys : List PyData} {i : Nat} {a b : PyData} (h1 : xs[i]? = some a) (h2 : ys[i]? = some b) : (zipD xs ys)[i]? = some (.tuple [a, b]) := by
  simp [zipD, List.getElem?_zipWith, h1, h2]
theorem it_enum (h : EA B env ta (AllD fun es => ∃ ds, es = [.list ds] ∧ Q (zipD (rangeD 0 ds.length) ds))) : IT B env (iEnum K ta) Q := fun O σ H j s R r =>
  h O σ H j s _ fun es vs H2 ⟨ds, e, ds2, e2, q⟩ g k => by
    subst e
    subst e2
    have kk := slots_dats k
    cases kk with
    | cons k1 k2 =>
      cases k2
      cases k1 with
      | @lst a xs _ w e ha =>
        refine ⟨a, xs, rfl, SqL.of e, r _ _ H2 q g ?_⟩
        have hl : (zipD (rangeD 0 ds2.length) ds2).length = xs.length := by simp [zipD, rangeD, ha.len]
        unfold Its
        rw [hl]
        refine (walk_enum (K := K) (a := a) (xs := xs)).mono (fun H g => SqL.of (g a _ w e)) fun i H x H' hi g y => ?_
        obtain ⟨T, x1, x2, e1, e2, e3, e4, e5⟩ := y
        cases e4
        obtain ⟨d, e6, q6⟩ := ha.getV e5
        refine .inr ⟨T, _, x2, .int (0 + (i : Nat)), d, e1, e2, e3, zipD_get ?_ e6, ?_, q6⟩
        · have : i < ds2.length := by rw [← ha.len]; exact hi
          simp [rangeD, this]
        · rw [Int.zero_add]; exact .int _
theorem it_zip (h : EA B env ta (AllD fun es => ∃ xs ys, (es = [.list xs, .list ys] ∨ es = [.tuple xs, .tuple ys]) ∧ Q (zipD xs ys))) : IT B env (iZipA K ta) Q := fun O σ H j s R r =>
  h O σ H j s _ fun es vs H2 ⟨ds, e, xs, ys, e2, q⟩ g k => by
    subst e
    have kk := slots_dats k
    rcases e2 with e2 | e2
    · subst e2
      cases kk with
      | cons k1 k2 =>
        cases k2 with
        | cons k2 k3 =>
          cases k3
          cases k1 with
          | @lst a us _ w e ha =>
            cases k2 with
            | @lst b vs _ w2 e2 hb =>
              refine ⟨a, b, us, vs, rfl, .inl ⟨SqL.of e, SqL.of e2, r _ _ H2 q g ?_⟩⟩
              have hl : (zipD xs ys).length = min us.length vs.length := by simp [zipD, ha.len, hb.len]
              unfold Its
              rw [hl]
              refine (walk_zip (K := K) (a := a) (b := b) (xs := us) (ys := vs) rfl).mono (fun H g => ⟨SqL.of (g a _ w e), SqL.of (g b _ w2 e2)⟩) fun i H x H' hi g y => ?_
              obtain ⟨T, x1, x2, e1, e2, e3, e4, e5⟩ := y
              obtain ⟨d, e6, q6⟩ := ha.getV e4
              obtain ⟨d2, e7, q7⟩ := hb.getV e5
              exact .inr ⟨T, x1, x2, d, d2, e1, e2, e3, zipD_get e6 e7, q6, q7⟩
    · subst e2
      cases kk with
      | cons k1 k2 =>
        cases k2 with
        | cons k2 k3 =>
          cases k3
          cases k1 with
          | @tup a us _ w e ha =>
            cases k2 with
            | @tup b vs _ w2 e2 hb =>
              refine ⟨a, b, us, vs, rfl, .inr ⟨SqT.of e, SqT.of e2, r _ _ H2 q g ?_⟩⟩
              have hl : (zipD xs ys).length = min us.length vs.length := by simp [zipD, ha.len, hb.len]
              unfold Its
              rw [hl]
              have wz : Walk (ItzT K a b) (min us.length vs.length) (fun H => SqT K H a us ∧ SqT K H b vs) (YPair (fun i => us[i]?) (fun i => vs[i]?)) := by
                refine ⟨fun i _ hi q => ?_, fun _ q => ⟨us, vs, q.1, q.2, by omega⟩, fun i H v H' _ q y => ?_⟩
                · have h1 : i < us.length := by omega
                  have h2 : i < vs.length := by omega
                  exact ⟨us, vs, us[i], vs[i], q.1, q.2, by simp [h1], by simp [h2]⟩
                · obtain ⟨T, x, z, h1, h2, h3, h4, h5⟩ := y
                  exact ⟨T, x, z, h1, h2, h3, h4 us q.1, h5 vs q.2⟩
              refine wz.mono (fun H g => ⟨SqT.of (g a _ w e), SqT.of (g b _ w2 e2)⟩) fun i H x H' hi g y => ?_
              obtain ⟨T, x1, x2, e1, e2, e3, e4, e5⟩ := y
              obtain ⟨d, e6, q6⟩ := ha.getV e4
              obtain ⟨d2, e7, q7⟩ := hb.getV e5
              exact .inr ⟨T, x1, x2, d, d2, e1, e2, e3, zipD_get e6 e7, q6, q7⟩
end

/-! ### targets -/
def GW (B : Fr) (env : List Ent) (g : TG) (d : PyData) (Q : List Ent → Prop) : Prop := ∀ (Z : Lk) (H0 : Hp) (U : Addr → Prop) (O : Lk) (σ : L2.St) (H : Hp) (v : V), St B Z H0 U env O σ H → Dq (B.lock O).W H v d → ∀ R : L2.St → Hp → Prop,
  (∀ e2 σ2, Q e2 → St B Z H0 U e2 O σ2 H → R σ2 H) → g v σ H R
def GWs (B : Fr) (env : List Ent) (g : TGs) (ds : List PyData) (Q : List Ent → Prop) : Prop := ∀ (Z : Lk) (H0 : Hp) (U : Addr → Prop) (O : Lk) (σ : L2.St) (H : Hp) (vs : List V), St B Z H0 U env O σ H → DqA (B.lock O).W H vs ds → ∀ R : L2.St → Hp → Prop,
  (∀ e2 σ2, Q e2 → St B Z H0 U e2 O σ2 H → R σ2 H) → g vs σ H R
section
variable {B : Fr} {env : List Ent} {Q : List Ent → Prop} {d : PyData} {K : PySem.W.Frag}
theorem gw_name {i : Nat} (q : Q (env.set i (.dat d))) : GW B env (gName i) d Q := fun Z H0 U O σ H v s k R r => r _ _ q (s.set i k)
theorem gws_nil (q : Q env) : GWs B env gNil [] Q := fun Z H0 U O σ H vs s k R r => by
  cases k
  exact ⟨rfl, r env σ q s⟩
theorem gws_cons {g : TG} {gs : TGs} {ds : List PyData} (h : GW B env g d fun e => GWs B e gs ds Q) : GWs B env (gCons g gs) (d :: ds) Q := fun Z H0 U O σ H vs s k R r => by
  cases k with
  | @cons v vs _ _ k1 k2 => exact ⟨v, vs, rfl, h Z H0 U O σ H v s k1 _ fun e2 σ2 q s2 => q Z H0 U O σ2 H vs s2 k2 R r⟩
theorem gw_tup {gs : TGs} {n : Nat} (h : ∃ ds, d = .tuple ds ∧ ds.length = n ∧ GWs B env gs ds Q) : GW B env (gTup K n gs) d Q := fun Z H0 U O σ H v s k R r => by
  obtain ⟨ds, rfl, hl, q⟩ := h
  cases k with
  | tup w e ha => exact ⟨_, _, rfl, SqT.of e, by rw [ha.len]; exact hl, q Z H0 U O σ H _ s ha R r⟩
theorem sw_asg {te : TE} {g : TG} {P : Post} (h : EW B env te fun d => GW B env g d P.N) : SW B env (tAsg te g) P := fun Z H0 U O σ H D s e =>
  h O σ H s.j s.sl _ fun d v H2 q gr k => q Z H0 U O σ H2 v (s.gro gr) k _ fun e2 σ2 n s2 => e.nx e2 O σ2 H2 n s2
theorem sw_par {i j : Nat} {ta : TA} {P : Post} (h : EA B env ta (AllD fun ds => ∃ a b, ds = [a, b] ∧ P.N ((env.set i (.dat a)).set j (.dat b)))) : SW B env (tPar i j ta) P := fun Z H0 U O σ H D s e =>
  h O σ H s.j s.sl _ fun es vs H2 ⟨ds, e1, a, b, e2, n⟩ gr k => by
    subst e1
    subst e2
    have kk := slots_dats k
    cases kk with
    | cons k1 k2 =>
      cases k2 with
      | cons k2 k3 =>
        cases k3
        exact ⟨_, _, rfl, e.nx _ O _ H2 n (((s.gro gr).set i k1).set j k2)⟩
end

/-! ### for -/
section
variable {B : Fr} {Z : Lk} {H0 H2 H3 : Hp} {U : Addr → Prop} {env e3 : List Ent} {O O3 : Lk} {σ σ3 : L2.St}
theorem St.old (s : St B Z H0 U env O σ H2) {a : Addr} (h : H2 a = none) : Z a ≠ none ∨ U a ∨ H0 a = none := by
  cases q : H0 a with
  | none => exact .inr (.inr rfl)
  | some o =>
    by_cases hu : U a
    · exact .inr (.inl hu)
    · cases qz : Z a with
      | some o' => exact .inl nofun
      | none =>
        by_cases hb : B.W a
        · exact absurd h (B.dom H2 a s.j.1 hb)
        · have := s.keep a o hb qz hu q
          rw [h] at this
          cases this
theorem St.back (s : St B Z H0 U env O σ H2) (t : St B Z H2 (fun a => O a ≠ none) e3 O3 σ3 H3) : St B Z H0 U e3 O3 σ3 H3 :=
  ⟨t.j, t.sl, t.nd, t.z, fun a o hb hz hu h0 => t.keep a o hb hz (fun ho => (s.dom a ho).elim (fun x => x hz) fun x => x.elim hu fun y => by rw [h0] at y; cases y) (s.keep a o hb hz hu h0),
    fun a ho => by
      rcases t.dom a ho with x | x | x
      · exact .inl x
      · exact s.dom a x
      · exact s.old x⟩
theorem St.backR (s : St B Z H0 U env O σ H2) (t : Rt B Z H2 (fun a => O a ≠ none) H3) : Rt B Z H0 U H3 :=
  ⟨t.1, fun a o hb hz hu h0 => t.2 a o hb hz (fun ho => (s.dom a ho).elim (fun x => x hz) fun x => x.elim hu fun y => by rw [h0] at y; cases y) (s.keep a o hb hz hu h0)⟩
theorem St.inner (s : St B Z H0 U env O σ H2) : St B Z H2 (fun a => O a ≠ none) env O σ H2 := ⟨s.j, s.sl, s.nd, s.z, fun _ _ _ _ _ e => e, fun _ x => .inr (.inl x)⟩
/-- what the walked thing leans on stays -/
theorem St.good (s : St B Z H0 U env O σ H2) (t : St B Z H2 (fun a => O a ≠ none) e3 O3 σ3 H3) {a : Addr} {o : HO} (w : ¬ (B.lock O).W a) (e : H2 a = some o) : ¬ (B.lock O3).W a ∧ H3 a = some o := by
  have hz : Z a = none := by
    cases q : Z a with
    | none => rfl
    | some o' => exact absurd (Or.inr (by rw [(s.z a o' q).1]; exact nofun)) w
  have ho : ¬ O a ≠ none := fun x => w (.inr x)
  refine ⟨fun w3 => ?_, t.keep a o (fun x => w (.inl x)) hz ho e⟩
  rcases w3 with x | x
  · exact w (.inl x)
  · rcases t.dom a x with y | y | y
    · exact y hz
    · exact ho y
    · rw [e] at y; cases y
theorem sw_for {wi : TI} {g : TG} {tb : TS} {P : Post} (h : IT B env wi fun ds => ∃ Iv : Nat → List Ent → Prop, Iv 0 env ∧
    (∀ i d e, ds[i]? = some d → Iv i e → GW B e g d fun e2 => SW B e2 tb ⟨Iv (i + 1), P.R, P.N, Iv (i + 1)⟩) ∧ ∀ e, Iv ds.length e → P.N e) : SW B env (tFor wi g tb) P := fun Z H0 U O σ H D s e => by
  refine h O σ H s.j s.sl _ fun ds J H2 ⟨Iv, h0, hs, hd⟩ gr w => ?_
  have s2 := s.gro gr
  refine for_it w (fun i σ H => ∃ e O3, Iv i e ∧ St B Z H2 (fun a => O a ≠ none) e O3 σ H) ⟨env, O, h0, s2.inner⟩ (fun i σ H _ ⟨e3, O3, _, t⟩ a o w q => (s2.good t w q).2) (fun i x σ3 H3 H4 hi ⟨e3, O3, inv, t⟩ y => ?_) (fun σ3 H3 ⟨e3, O3, inv, t⟩ => e.nx _ O3 _ _ (hd e3 inv) (s2.back t))
  have mv : ∀ a o, ¬ (B.lock O).W a → H2 a = some o → ¬ (B.lock O3).W a ∧ H3 a = some o := fun a o w q => s2.good t w q
  have ends : EndOk B Z H2 (fun a => O a ≠ none) ⟨Iv (i + 1), P.R, P.N, Iv (i + 1)⟩ { D with nx := fun σ H => ∃ e O3, Iv (i + 1) e ∧ St B Z H2 (fun a => O a ≠ none) e O3 σ H, ct := fun σ H => ∃ e O3, Iv (i + 1) e ∧ St B Z H2 (fun a => O a ≠ none) e O3 σ H, bk := D.nx } :=
    ⟨fun v O5 σ5 H5 n t5 => ⟨v, O5, n, t5⟩, fun d v H5 r t5 k => e.rt d v H5 r (s2.backR t5) k, fun v O5 σ5 H5 n t5 => e.nx v O5 σ5 H5 n (s2.back t5), fun v O5 σ5 H5 n t5 => ⟨v, O5, n, t5⟩⟩
  rcases y with ⟨d, e1, e2, k⟩ | ⟨T, x1, x2, d1, d2, e1, e2, e3', e4, k1, k2⟩
  · subst e2
    exact hs i d e3 e1 inv Z H2 _ O3 σ3 _ x t (Dq.to mv d x k) _ fun e5 σ5 q5 t5 => q5 Z H2 _ O3 σ5 _ _ t5 ends
  · subst e1
    subst e3'
    have g4 : Gro (B.lock O3) H3 (upd H3 T (.tup [x1, x2])) := .new t.j e2
    have nT := Fr.fresh t.j e2
    have k5 : Dq (B.lock O3).W (upd H3 T (.tup [x1, x2])) (.ref T) (.tuple [d1, d2]) := .tup nT upd_same (.cons ((Dq.to mv d1 x1 k1).gro g4) (.cons ((Dq.to mv d2 x2 k2).gro g4) .nil))
    exact hs i _ e3 e4 inv Z H2 _ O3 σ3 _ _ (t.gro g4) k5 _ fun e5 σ5 q5 t5 => q5 Z H2 _ O3 σ5 _ _ t5 ends
theorem sw_while {c : TT} {tb : TS} {P : Post} (h : ∃ Iv : Nat → List Ent → Prop, (∃ m, Iv m env) ∧ ∀ m e, Iv m e → TW B e c fun b =>
    if b = true then SW B e tb ⟨fun e' => ∃ m', m' < m ∧ Iv m' e', P.R, P.N, fun e' => ∃ m', m' < m ∧ Iv m' e'⟩ else P.N e) : SW B env (tWhile c tb) P := fun Z H0 U O σ H D s e => by
  obtain ⟨Iv, ⟨m0, h0⟩, hs⟩ := h
  refine ⟨fun m σ H => ∃ e O3, Iv m e ∧ St B Z H0 U e O3 σ H, ⟨m0, env, O, h0, s⟩, fun m σ3 H3 ⟨e3, O3, inv, t⟩ => ?_⟩
  refine hs m e3 inv O3 σ3 H3 t.j t.sl _ fun b H4 q g => ?_
  cases b with
  | true =>
    rw [if_pos rfl]
    rw [if_pos rfl] at q
    refine ⟨fun σ' H' => ∃ m', m' < m ∧ ∃ e O3, Iv m' e ∧ St B Z H0 U e O3 σ' H', fun σ' H' z => z, q Z H0 U O3 σ3 H4 _ (t.gro g) ⟨fun v O5 σ5 H5 ⟨m', hm, n⟩ t5 => ⟨m', hm, v, O5, n, t5⟩, e.rt, e.nx, fun v O5 σ5 H5 ⟨m', hm, n⟩ t5 => ⟨m', hm, v, O5, n, t5⟩⟩⟩
  | false =>
    rw [if_neg Bool.false_ne_true]
    rw [if_neg Bool.false_ne_true] at q
    exact e.nx e3 O3 σ3 H4 q (t.gro g)
end

/-! ### comprehensions -/
def wipeE (env : List Ent) : List Nat → List Ent
  | [] => env
  | v :: vs => (wipeE env vs).set v .non
theorem wipe_set {σ : L2.St} {i : Nat} {x : Option V} : ∀ {vs : List Nat}, i ∈ vs → wipe (σ.set i x) vs = wipe σ vs := by
  have gen : ∀ vs : List Nat, wipe (σ.set i x) vs = if i ∈ vs then wipe σ vs else (wipe σ vs).set i x := by
    intro vs
    induction vs with
    | nil => simp [wipe]
    | cons v vs ih =>
      show (wipe (σ.set i x) vs).set v none = _
      rw [ih]
      by_cases h : i ∈ vs
      · rw [if_pos h, if_pos (List.mem_cons_of_mem _ h)]; rfl
      · rw [if_neg h]
        by_cases e : i = v
        · subst e
          rw [if_pos List.mem_cons_self, List.set_set]; rfl
        · rw [if_neg (by intro z; rcases List.mem_cons.mp z with q | q; exact e q; exact h q), List.set_comm _ _ (by exact e)]; rfl
  intro vs h
  rw [gen, if_pos h]
theorem wipe_wipe {σ : L2.St} {vs : List Nat} : wipe (wipe σ vs) vs = wipe σ vs := by
  have gen : ∀ us : List Nat, (∀ i ∈ us, i ∈ vs) → wipe (wipe σ us) vs = wipe σ vs := by
    intro us
    induction us with
    | nil => intro _; rfl
    | cons v us ih =>
      intro h
      show wipe ((wipe σ us).set v none) vs = _
      rw [wipe_set (h v List.mem_cons_self), ih fun i hi => h i (List.mem_cons_of_mem _ hi)]
  exact gen vs fun _ h => h
theorem Slots.wipe {W : Addr → Prop} {O : Lk} {H : Hp} {σ : L2.St} {env : List Ent} (h : Slots W O H σ env) : ∀ vs : List Nat, Slots W O H (L2.wipe σ vs) (wipeE env vs)
  | [] => h
  | v :: vs => (Slots.wipe h vs).set v trivial
def GC (B : Fr) (vs : List Nat) (env : List Ent) (g : TG) (d : PyData) (Q : List Ent → Prop) : Prop := ∀ (O : Lk) (σ : L2.St) (H : Hp) (v : V), (B.lock O).J H → Slots (B.lock O).W O H σ env → Dq (B.lock O).W H v d → ∀ R : L2.St → Hp → Prop,
  (∀ e2 σ2, Q e2 → Slots (B.lock O).W O H σ2 e2 → wipe σ2 vs = wipe σ vs → R σ2 H) → g v σ H R
def GCs (B : Fr) (vs : List Nat) (env : List Ent) (g : TGs) (ds : List PyData) (Q : List Ent → Prop) : Prop := ∀ (O : Lk) (σ : L2.St) (H : Hp) (xs : List V), (B.lock O).J H → Slots (B.lock O).W O H σ env → DqA (B.lock O).W H xs ds → ∀ R : L2.St → Hp → Prop,
  (∀ e2 σ2, Q e2 → Slots (B.lock O).W O H σ2 e2 → wipe σ2 vs = wipe σ vs → R σ2 H) → g xs σ H R
section
variable {B : Fr} {vs : List Nat} {env : List Ent} {Q : List Ent → Prop} {d : PyData} {K : PySem.W.Frag}
theorem gc_name {i : Nat} (hi : i ∈ vs) (q : Q (env.set i (.dat d))) : GC B vs env (gName i) d Q := fun O σ H v j s k R r => r _ _ q (s.set i ⟨v, rfl, k⟩) (wipe_set hi)
theorem gcs_nil (q : Q env) : GCs B vs env gNil [] Q := fun O σ H xs j s k R r => by
  cases k
  exact ⟨rfl, r env σ q s rfl⟩
theorem gcs_cons {g : TG} {gs : TGs} {ds : List PyData} (h : GC B vs env g d fun e => GCs B vs e gs ds Q) : GCs B vs env (gCons g gs) (d :: ds) Q := fun O σ H xs j s k R r => by
  cases k with
  | @cons v us _ _ k1 k2 => exact ⟨v, us, rfl, h O σ H v j s k1 _ fun e2 σ2 q s2 w => q O σ2 H us j s2 k2 R fun e3 σ3 q3 s3 w3 => r e3 σ3 q3 s3 (w3.trans w)⟩
theorem gc_tup {gs : TGs} {n : Nat} (h : ∃ ds, d = .tuple ds ∧ ds.length = n ∧ GCs B vs env gs ds Q) : GC B vs env (gTup K n gs) d Q := fun O σ H v j s k R r => by
  obtain ⟨ds, rfl, hl, q⟩ := h
  cases k with
  | tup w e ha => exact ⟨_, _, rfl, SqT.of e, by rw [ha.len]; exact hl, q O σ H _ j s ha R r⟩
theorem ew_lc {wi : TI} {g : TG} {tt : TT} {te : TE} {P : PyData → Prop} (h : IT B env wi fun ds => ds.length ≤ 100000 ∧ ∃ Iv : Nat → List PyData → Prop, Iv 0 [] ∧
    (∀ i d acc, ds[i]? = some d → Iv i acc → GC B vs (wipeE env vs) g d fun e2 => TW B e2 tt fun b => if b = true then EW B e2 te fun y => Iv (i + 1) (acc ++ [y]) else Iv (i + 1) acc) ∧
    ∀ acc, Iv ds.length acc → P (.list acc)) : EW B env (tLc wi g tt te vs) P := fun O σ H j s R r => by
  refine h O σ H j s _ fun ds J H1 ⟨hlen, Iv, h0, hs, hd⟩ gr w D hD => ?_
  have s1 := s.gro gr
  have nD : ¬ (B.lock O).W D := Fr.fresh gr.2 hD
  have oD : O D = none := by
    cases q : O D with
    | none => rfl
    | some o => exact absurd (Or.inr (by rw [q]; exact nofun)) nD
  refine lc_it w (fun i H => ∃ acc ad, H D = some (.lst acc) ∧ DqA (fun a => (B.lock O).W a ∨ a = D) H acc ad ∧ Iv i ad ∧ acc.length ≤ i ∧ (∀ a o, ¬ (B.lock O).W a → H1 a = some o → H a = some o) ∧ (B.lock O).J H)
    ⟨[], [], upd_same, .nil, h0, Nat.le_refl _, fun a o w q => by rw [upd_ne (ne_of_none q hD)]; exact q, (Gro.new gr.2 hD).2⟩ (fun i H hi ⟨_, _, _, _, _, _, k, _⟩ a o w q => k a o w q) (fun i x H3 H4 hi ⟨acc, ad, e1, ka, inv, hl, kp, jj⟩ y => ?_) (fun H3 ⟨acc, ad, e1, ka, inv, hl, kp, jj⟩ => ?_)
  · -- one turn: the new list is locked meanwhile
    let O2 : Lk := fun a => if a = D then some (.lst acc) else O a
    have o2 : ∀ a, a ≠ D → O2 a = O a := fun a ha => if_neg ha
    have o2D : O2 D = some (.lst acc) := if_pos rfl
    have w2 : ∀ a, ¬ (B.lock O).W a → a ≠ D → ¬ (B.lock O2).W a := fun a w ha x => w (x.elim .inl fun z => .inr (by rw [← o2 a ha]; exact z))
    have w2' : ∀ a, ¬ (B.lock O2).W a → ¬ (B.lock O).W a ∧ a ≠ D := fun a w => by
      have ha : a ≠ D := fun z => w (.inr (by rw [z, o2D]; exact nofun))
      exact ⟨fun x => w (x.elim .inl fun z => .inr (by rw [o2 a ha]; exact z)), ha⟩
    have jO2 : ∀ H5 : Hp, (B.lock O).J H5 → H5 D = some (.lst acc) → (B.lock O2).J H5 := fun H5 j5 e5 => ⟨j5.1, fun a o q => by
      by_cases ha : a = D
      · subst ha
        rw [o2D] at q
        cases q
        exact ⟨fun z => nD (.inl z), e5⟩
      · rw [o2 a ha] at q
        exact j5.2 a o q⟩
    have mv : ∀ a o, ¬ (B.lock O).W a → H1 a = some o → ¬ (B.lock O2).W a ∧ H3 a = some o := fun a o w q => ⟨w2 a w (ne_of_none q hD), kp a o w q⟩
    have fin : ∀ (H5 : Hp) (x : V) (d : PyData), (B.lock O2).J H5 → (∀ a o, ¬ (B.lock O2).W a → H3 a = some o → H5 a = some o) → ds[i]? = some d → Dq (B.lock O2).W H5 x d →
        g x (wipe σ vs) H5 fun σ2 H2 => wipe σ2 vs = wipe σ vs ∧ tt σ2 H2 fun b H3 => if b = true then te σ2 H3 fun y H4 => ∃ acc, H4 D = some (.lst acc) ∧ acc.length < sizeLine ∧ (∃ acc2 ad, (upd H4 D (.lst (acc ++ [y]))) D = some (.lst acc2) ∧ DqA (fun a => (B.lock O).W a ∨ a = D) (upd H4 D (.lst (acc ++ [y]))) acc2 ad ∧ Iv (i + 1) ad ∧ acc2.length ≤ i + 1 ∧ (∀ a o, ¬ (B.lock O).W a → H1 a = some o → (upd H4 D (.lst (acc ++ [y]))) a = some o) ∧ (B.lock O).J (upd H4 D (.lst (acc ++ [y]))))
          else ∃ acc2 ad, H3 D = some (.lst acc2) ∧ DqA (fun a => (B.lock O).W a ∨ a = D) H3 acc2 ad ∧ Iv (i + 1) ad ∧ acc2.length ≤ i + 1 ∧ (∀ a o, ¬ (B.lock O).W a → H1 a = some o → H3 a = some o) ∧ (B.lock O).J H3 := by
      intro H5 x d j5 k5 ed kx
      have sl5 : Slots (B.lock O2).W O2 H5 (wipe σ vs) (wipeE env vs) := by
        refine Slots.wipe ?_ vs
        exact s1.to (fun a o w q => ⟨(mv a o w q).1, k5 a o (mv a o w q).1 (mv a o w q).2⟩) fun a ha => o2 a (fun z => (s1.own_in ha) (z ▸ oD))
      have ka5 : DqA (B.lock O2).W H5 acc ad := DqA.to (fun a o w q => by
        have n1 : ¬ (B.lock O).W a := fun z => w (.inl z)
        have n2 : a ≠ D := fun z => w (.inr z)
        exact ⟨w2 a n1 n2, k5 a o (w2 a n1 n2) q⟩) ad acc ka
      have back : ∀ H6 : Hp, Gro (B.lock O2) H5 H6 → H6 D = some (.lst acc) ∧ (∀ a o, ¬ (B.lock O).W a → H1 a = some o → H6 a = some o) ∧ (B.lock O).J H6 ∧ DqA (B.lock O2).W H6 acc ad := fun H6 g6 => by
        refine ⟨(g6.2.2 D _ o2D).2, fun a o w q => g6.1 a o (mv a o w q).1 (k5 a o (mv a o w q).1 (mv a o w q).2), ⟨g6.2.1, fun a o q => ?_⟩, ka5.gro g6⟩
        have ha : a ≠ D := fun z => by subst z; rw [oD] at q; cases q
        exact g6.2.2 a o ((o2 a ha).trans q)
      refine hs i d ad ed inv O2 (wipe σ vs) H5 x j5 sl5 kx _ fun e2 σ2 q2 sl2 wp => ⟨wp.trans wipe_wipe, q2 O2 σ2 H5 j5 sl2 _ fun b H6 q6 g6 => ?_⟩
      cases b with
      | false =>
        rw [if_neg Bool.false_ne_true]
        rw [if_neg Bool.false_ne_true] at q6
        obtain ⟨b1, b2, b3, b4⟩ := back H6 g6
        exact ⟨acc, ad, b1, DqA.to (fun a o w q => ⟨fun z => z.elim (w2' a w).1 (w2' a w).2, q⟩) ad acc b4, q6, Nat.le_succ_of_le hl, b2, b3⟩
      | true =>
        rw [if_pos rfl]
        rw [if_pos rfl] at q6
        refine q6 O2 σ2 H6 g6.2 (sl2.gro g6) _ fun y v7 H7 q7 g7 k7 => ?_
        obtain ⟨b1, b2, b3, b4⟩ := back H7 (g6.trans g7)
        have mvu : ∀ a o, ¬ (B.lock O2).W a → H7 a = some o → ¬ ((B.lock O).W a ∨ a = D) ∧ (upd H7 D (.lst (acc ++ [v7]))) a = some o := fun a o w q => ⟨fun z => z.elim (w2' a w).1 (w2' a w).2, by rw [upd_ne (w2' a w).2]; exact q⟩
        refine ⟨acc, b1, Nat.lt_of_le_of_lt hl (Nat.lt_of_lt_of_le (Nat.lt_of_lt_of_le hi hlen) (by decide)), acc ++ [v7], ad ++ [y], upd_same, (DqA.to mvu ad acc b4).append (.cons (Dq.to mvu y v7 k7) .nil), q7, ?_, fun a o w q => by rw [upd_ne (ne_of_none q hD)]; exact b2 a o w q, (B.lock O).loc H7 _ (fun a w => upd_ne (fun z => nD (z ▸ w))) b3⟩
        rw [List.length_append, List.length_singleton]
        omega
    rcases y with ⟨d, e2, e3, k⟩ | ⟨T, x1, x2, d1, d2, e2, e3, e4, e5, k1, k2⟩
    · subst e3
      exact fin _ x d (jO2 _ jj e1) (fun _ _ _ q => q) e2 (Dq.to mv d x k)
    · subst e2
      subst e4
      have jz := jO2 _ jj e1
      have g4 : Gro (B.lock O2) H3 (upd H3 T (.tup [x1, x2])) := .new jz e3
      have nT := Fr.fresh jz e3
      exact fin _ _ _ g4.2 g4.1 e5 (.tup nT upd_same (.cons ((Dq.to mv d1 x1 k1).gro g4) (.cons ((Dq.to mv d2 x2 k2).gro g4) .nil)))
  · refine r _ _ H3 (hd ad inv) ⟨fun a o w q => kp a o w (gr.1 a o w q), jj⟩ (.lst nD e1 (DqA.to (fun a o w q => ⟨fun z => w (.inl z), q⟩) ad acc ka))
/-- each item made by itself: f -/
theorem ew_lcMap {wi : TI} {g : TG} {te : TE} {P : PyData → Prop} (f : PyData → PyData) (h : IT B env wi fun ds => ds.length ≤ 100000 ∧
    (∀ d, d ∈ ds → GC B vs (wipeE env vs) g d fun e2 => EW B e2 te fun y => y = f d) ∧ P (.list (ds.map f))) : EW B env (tLc wi g tYes te vs) P := by
  refine ew_lc fun O σ H j s R r => h O σ H j s R fun ds J H2 ⟨hl, hs, hp⟩ gr w => r ds J H2 ⟨hl, fun i acc => acc = (ds.take i).map f, rfl, fun i d acc e inv => ?_, fun acc inv => ?_⟩ gr w
  · intro O σ H v j s k R r
    refine hs d (List.mem_of_getElem? e) O σ H v j s k R fun e2 σ2 q s2 w2 => r e2 σ2 (tw_yes ?_) s2 w2
    rw [if_pos rfl]
    refine q.mono fun y hy => ?_
    subst inv
    rw [hy, List.take_add_one, e, List.map_append]
    rfl
  · subst inv
    rw [List.take_length]
    exact hp
/-- .. or drawn: each is G -/
theorem ew_lcAll {wi : TI} {g : TG} {te : TE} {P : PyData → Prop} (G : PyData → Prop) (h : IT B env wi fun ds => ds.length ≤ 100000 ∧
    (∀ d, d ∈ ds → GC B vs (wipeE env vs) g d fun e2 => EW B e2 te G) ∧ ∀ acc : List PyData, acc.length = ds.length → (∀ y, y ∈ acc → G y) → P (.list acc)) : EW B env (tLc wi g tYes te vs) P := by
  refine ew_lc fun O σ H j s R r => h O σ H j s R fun ds J H2 ⟨hl, hs, hp⟩ gr w => r ds J H2 ⟨hl, fun i acc => acc.length = i ∧ ∀ y, y ∈ acc → G y, ⟨rfl, fun _ h => by cases h⟩, fun i d acc e inv => ?_, fun acc inv => ?_⟩ gr w
  · intro O σ H v j s k R r
    refine hs d (List.mem_of_getElem? e) O σ H v j s k R fun e2 σ2 q s2 w2 => r e2 σ2 (tw_yes ?_) s2 w2
    rw [if_pos rfl]
    refine q.mono fun y hy => ⟨by rw [List.length_append, List.length_singleton, inv.1], fun z hz => ?_⟩
    rcases List.mem_append.mp hz with m | m
    · exact inv.2 z m
    · have : z = y := by simpa using m
      subst this
      exact hy
  · exact hp acc inv.1 inv.2
end

/-! ### a def -/
theorem slots_len {W : Addr → Prop} {O : Lk} {H : Hp} {vs : List V} {es : List Ent} (h : Slots W O H (vs.map some) es) : vs.length = es.length := by
  induction es generalizing vs with
  | nil => cases vs with
    | nil => rfl
    | cons _ _ => exact h.elim
  | cons e es ih => cases vs with
    | nil => exact h.elim
    | cons v vs => rw [List.length_cons, List.length_cons, ih h.2]
theorem slots_app {W : Addr → Prop} {O : Lk} {H : Hp} {vs : List V} {es : List Ent} (n : Nat) (h : Slots W O H (vs.map some) es) : Slots W O H (vs.map some ++ List.replicate n none) (es ++ List.replicate n .non) := by
  induction es generalizing vs with
  | nil => cases vs with
    | nil =>
      show Slots _ _ _ (List.replicate n none) (List.replicate n .non)
      clear h
      induction n with
      | zero => trivial
      | succ n ih => exact ⟨trivial, ih⟩
    | cons _ _ => exact h.elim
  | cons e es ih => cases vs with
    | nil => exact h.elim
    | cons v vs => exact ⟨h.1, ih h.2⟩
theorem owned_app (es : List Ent) (n : Nat) : owned (es ++ List.replicate n .non) = owned es := by
  induction es with
  | nil => induction n with
    | zero => rfl
    | succ n ih => exact ih
  | cons e es ih => cases e <;> first | exact ih | (show _ :: owned (es ++ List.replicate n .non) = _; rw [ih]; rfl)
/-- from a body's reading over data to its reading over the heap -/
theorem sp_run {B : Fr} {O : Lk} {es : List Ent} {R : PyData → Prop} {H : Hp} {vs : List V} {Q : VK} {N ps : List Str} {t : TS} (hl : es.length = ps.length) (no : owned es = []) (j : (B.lock O).J H) (sl : Slots (B.lock O).W O H (vs.map some) es)
    (q : ∀ d v H2, R d → Gro (B.lock O) H H2 → Dq (B.lock O).W H2 v d → Q v H2) (hw : SW B (es ++ List.replicate (N.length - ps.length) .non) t ⟨fun _ => R .none, R, fun _ => False, fun _ => False⟩) :
    t { nx := fun _ H' => Q .non H', rt := Q } (L2.start N vs) H := by
  have back : ∀ H2, Rt B O H (fun _ => False) H2 → Gro (B.lock O) H H2 := fun H2 r2 => ⟨fun a o w e => r2.2 a o (fun z => w (.inl z)) (by
      cases z : O a with
      | none => rfl
      | some o' => exact absurd (Or.inr (by rw [z]; exact nofun)) w) (fun z => z) e, r2.1⟩
  refine hw O H (fun _ => False) O (L2.start N vs) H _ ⟨j, ?_, ?_, fun a o e => ⟨e, ?_⟩, fun _ _ _ _ _ e => e, fun a e => .inl e⟩ ⟨fun e2 O2 σ2 H2 n s2 => q .none .non H2 n (back H2 s2.rt) .non, fun d v H2 n r2 k2 => q d v H2 n (back H2 r2) k2, fun _ _ _ _ z => z.elim, fun _ _ _ _ z => z.elim⟩
  · have l1 : vs.length = ps.length := (slots_len sl).trans hl
    unfold L2.start
    rw [l1]
    exact slots_app _ sl
  · rw [owned_app, no]
    exact List.nodup_nil
  · rw [owned_app, no]
    exact nofun
theorem fn_dl {P : Program} {w : World} {K : PySem.W.Frag} {mg : Str → Option Value} {base : Heap} {x qual : Str} {st : Stmt} {f : Addr} {fd : FuncData} {N ps : List Str} {k : Nat} {m : Fr → List Ent → (PyData → Prop) → Prop}
    (F : Fun K x qual st f fd) (S : FnScope N ps (defScope st)) (len : ∀ B es R, m B es R → es.length = ps.length)
    (body : ∀ (cdv : Value) (A : Around) (outer : List Env) (s : Shared) (H : Hp) (E : XK), Room k (A.deeper (envOfC qual (defScope st) s.heap.objs.size f cdv)) → ∀ (B : Fr) (es : List Ent) (R : PyData → Prop), m B es R →
      ∃ t, PSs (cxOf CX0 P w K mg base N qual (defScope st) f cdv A outer s H E).nox (defBody st) t ∧ SW B (es ++ List.replicate (N.length - ps.length) .non) t ⟨fun _ => R .none, R, fun _ => False, fun _ => False⟩) :
    FnOk P w K mg base CX0 (k + 1) f fd ps (spG m) := by
  refine F.ok S (fun vs H Q E ⟨B, O, es, R, hm, _, _, sl, _⟩ => (slots_len sl).trans (len B es R hm)) fun cdv A outer s H vs Q E hr ⟨B, O, es, R, hm, no, j, sl, q⟩ => ?_
  obtain ⟨t, ht, hw⟩ := body cdv A outer s H E hr B es R hm
  exact ⟨t, ht, sp_run (len B es R hm) no j sl q hw⟩

/-! ### what a def of the module is, for its callers -/
def Has (P : Program) (w : World) (K : PySem.W.Frag) (mg : Str → Option Value) (base : Heap) (x : Str) (k : Nat) (ps : List Str) (sp : Sp) : Prop :=
  ∃ f fd, FnOk P w K mg base CX0 k f fd ps sp ∧ mg x = some (.ref f) ∧ PySem.W.keepIn K (.ref f) = true ∧ Binds K fd ps []
theorem Has.call {X : Cx} {x : Str} {k j : Nat} {ps : List Str} {sp : Sp} {p pos : Pos} {e : Expr} {es : List Expr} {t : TA} (h : Has X.prog X.w X.K X.mg X.base x k ps sp) (hr : Room j X.A) (ha : PA X (e :: es) t) (hk : k ≤ j := by decide) (hg : Gl X x := by rfl)
    (hdb : (x == ("__debug__" : Str)) = false := by decide) (he : starEach (e :: es) X.env = (false, eval e X.env) :: starEach es X.env := by rfl) (hpl : (backTo pos (starEach es X.env)).any (·.1) = false := by rfl) :
    PE X (.Call (.Name x p) (e :: es) [] pos) (tCall sp [] E0 t) := by
  obtain ⟨f, fd, F, m, kp, b⟩ := h
  exact pe_call F (hr.mono hk) hg m kp b .nil pass0 ha hdb he hpl
end Dl
end
section
set_option Elab.async false
set_option linter.all false
set_option maxRecDepth 100000
/-! repr of data at any depth, ints of up to 4,200 figures: the limit of figures is known from the top's statics -/
namespace Dl
open PySem L2 PySem.Spec PyProof.Rows

def NoDig (h : Heap) : Prop := ∃ mc, h.Ns cStatics mc ∧ mc "sys.int_max_str_digits" = none
theorem NoDig.keeps {h h' : Heap} (n : NoDig h) (k : ∀ b o, h.get? b = some o → h'.get? b = some o) : NoDig h' := by
  obtain ⟨mc, a, b⟩ := n
  exact ⟨mc, a.keeps k, b⟩
section
variable {prog : Program} {w : World} {A : Around} {E : Value → Shared → Prop} {s : Shared}
theorem digits_none {a : Int} {Q : Option Nat → Shared → Prop} (n : NoDig s.heap) (ha : a.natAbs.log2 < 12900) (h : Q none s) : wpAny (model prog w) A (Builtin.overDigitLimit? a) Q E s := by
  obtain ⟨mc, hn, hm⟩ := n
  unfold Builtin.overDigitLimit?
  by_cases h0 : a.natAbs.log2 < 1920
  · rw [if_pos h0]
    exact wpAny_pure h
  · rw [if_neg h0]
    refine wpAny_bind (m := Builtin.intMaxStrDigits) ?_
    unfold Builtin.intMaxStrDigits
    refine wpAny_bind (wpAny_nsGet hn ?_)
    rw [hm]
    refine wpAny_pure ?_
    have h1 : ¬ (a.natAbs.log2 / 30 + 1 > 1000) := by omega
    have h2 : a.natAbs.log2 < 3 * 4300 := by omega
    simp only [h1, if_false, h2, decide_true, Bool.or_true, if_true]
    exact wpAny_pure h
theorem int_repr_big {a : Int} {t : Tok} {Q : Fin → Shared → Prop} (n : NoDig s.heap) (ha : a.natAbs.log2 < 12900) (h : Q (.done (.ret (.str (toString a) s.toks))) { s with toks := s.toks + 1 }) :
    wpAny (model prog w) A (Builtin.«int.__repr__» ⟨[.int a t], []⟩) Q E s := by
  have hsz : (Str.ofString (toString a)).length ≤ sizeLine := by
    have e := int_text_length_le (k := 12900) (by decide) ha
    rw [PySem.ofString_length, sizeLine_eq]
    omega
  unfold Builtin.«int.__repr__»
  show wpAny _ A (do let r ← Builtin.overDigitLimit? a; _) Q E s
  refine wpAny_bind (digits_none n ha ?_)
  show wpAny _ A (do let v ← mkStr (Str.ofString (toString a)); _) Q E s
  exact wpAny_bind (wpAny_mkStr (wpAny_pure h) hsz)
theorem reprObj_big {a : Int} {t : Tok} {Q : Value → Shared → Prop} (n : NoDig s.heap) (hu : A.units < cLine) (ha : a.natAbs.log2 < 12900) (h : ∀ tk u, Q (.str (toString a) u) { s with toks := tk }) : wpAny (model prog w) A (pyReprObj (.int a t)) Q E s := by
  refine wpAny_pyReprObj_slot hu (typeIs_int s a t) F.slot_int_repr.toG (wpAny_call (codeAny_call_builtin F.slot_int_repr.plain F.entry_int_repr (F.slot_int_repr.check _ _ _ _ _ _ _ _ (typeIs_int s a t) (F.args_int_repr_1 _) (int_repr_big n ha ?_))))
  exact ⟨_, _, rfl, h _ _⟩
end
theorem reprK_int {prog : Program} {w : World} {as : List Addr} {h₀ : Heap} {d : Nat} {a : Int} {t : Tok} (n : NoDig h₀) (ha : a.natAbs.log2 < 12900) : ReprK prog w as h₀ d (.int a t) (toString a) := by
  intro base hb A g E s Q _ _ hu hk hQ
  rw [pyReprUnder_leaf (v := .int a t) (by omega) (fun _ e => nomatch e)]
  unfold pyRepr
  exact wpAny_bind (reprObj_big (n.keeps hk) (by omega) ha fun tk u => wpAny_pure (hQ s.heap tk fun _ _ e => e))

/-- data that may be shown -/
def Shw : PyData → Prop
  | .int i => i.natAbs.log2 < 12900
  | .list xs => ∀ x ∈ xs, Shw x
  | .tuple xs => ∀ x ∈ xs, Shw x
  | .dict _ => False
  | _ => True
mutual
theorem reprK_of {prog : Program} {w : World} {h₀ : Heap} (n : NoDig h₀) : ∀ {v : Value} {d : PyData} {as : List Addr}, Reads h₀ v d as → Shw d → d.shown.length ≤ sizeLine → ∃ bs, ReadAtMost h₀ d.depth bs ∧ ReprK prog w bs h₀ d.depth v d.shown
  | _, _, _, .none, _, _ => ⟨[], nofun, ReprK.of_is ReprIs.none _ _ _⟩
  | _, _, _, .bool b, _, _ => ⟨[], nofun, by rw [PyData.shown]; exact ReprK.of_is (ReprIs.bool b) _ _ _⟩
  | _, _, _, .int i t, hs, _ => ⟨[], nofun, by rw [PyData.shown]; exact reprK_int n (by unfold Shw at hs; exact hs)⟩
  | _, _, _, .str x t, _, hz => ⟨[], nofun, by rw [PyData.shown] at hz ⊢; exact ReprK.of_is (ReprIs.str x t hz) _ _ _⟩
  | _, _, _, .list (a := a) (vs := vs) (xs := xs) h1 h2 h3 h4, hs, hz => by
    unfold Shw at hs
    rw [PyData.shown] at hz
    obtain ⟨bs, hb, hk⟩ := reprKs_of n h4 hs (fun t ht => Nat.le_trans (listText_mem_le ht) hz)
    have r : Reads h₀ (.ref a) (.list xs) _ := .list h1 h2 h3 h4
    have hna : a ∉ bs := not_mem_of_deeper r (by rw [PyData.depth]; omega) hb
    refine ⟨a :: bs, ReadAtMost.cons r (by rw [PyData.depth]; omega) hb, ?_⟩
    rw [PyData.depth, PyData.shown]
    obtain ⟨l⟩ := vs
    cases l with
    | nil =>
      have z : ReadsAll h₀ [] xs _ := h4
      cases z
      rw [PyData.shownAll, listText_nil]
      exact .listEmpty h1 h2 h3
    | cons x l => exact .list h1 h2 h3 hna (by simpa using hk.length_eq) (fun i y e => hk.item i y (by simpa using e))
  | _, _, _, .tuple (a := a) (xs := xs) h1 h2 h3 h4, hs, hz => by
    unfold Shw at hs
    rw [PyData.shown] at hz
    obtain ⟨bs, hb, hk⟩ := reprKs_of n h4 hs (fun t ht => Nat.le_trans (tupleText_mem_le ht) hz)
    have r : Reads h₀ (.ref a) (.tuple xs) _ := .tuple h1 h2 h3 h4
    have hna : a ∉ bs := not_mem_of_deeper r (by rw [PyData.depth]; omega) hb
    refine ⟨a :: bs, ReadAtMost.cons r (by rw [PyData.depth]; omega) hb, ?_⟩
    rw [PyData.depth, PyData.shown]
    exact .tuple h1 h2 h3 hna hk
  | _, _, _, .dict _ _ _ _ _, hs, _ => by
    unfold Shw at hs
    exact hs.elim
theorem reprKs_of {prog : Program} {w : World} {h₀ : Heap} (n : NoDig h₀) : ∀ {vs : List Value} {ds : List PyData} {as : List Addr}, ReadsAll h₀ vs ds as → (∀ x ∈ ds, Shw x) → (∀ t ∈ PyData.shownAll ds, t.length ≤ sizeLine) →
    ∃ bs, ReadAtMost h₀ (PyData.depthAll ds) bs ∧ ReprAllK prog w bs h₀ (PyData.depthAll ds) vs (PyData.shownAll ds)
  | _, _, _, .nil, _, _ => ⟨[], nofun, by rw [PyData.shownAll]; exact .nil⟩
  | _, _, _, .cons (d := d) (ds := ds) r rs, hs, hz => by
    rw [PyData.shownAll] at hz
    obtain ⟨b1, hb1, k1⟩ := reprK_of n r (hs d List.mem_cons_self) (hz _ List.mem_cons_self)
    obtain ⟨b2, hb2, k2⟩ := reprKs_of n rs (fun x hx => hs x (List.mem_cons_of_mem _ hx)) (fun t ht => hz t (List.mem_cons_of_mem _ ht))
    refine ⟨b1 ++ b2, ?_, ?_⟩
    · rw [PyData.depthAll]
      exact (hb1.mono (Nat.le_max_left _ _)).append (hb2.mono (Nat.le_max_right _ _))
    · rw [PyData.depthAll, PyData.shownAll]
      exact .cons ((k1.more fun b hb => List.mem_append_left _ hb).level_le (Nat.le_max_left _ _)) (k2.more_le (fun b hb => List.mem_append_right _ hb) (Nat.le_max_right _ _))
end

/-- repr(d): what is written is hung on the data alone -/
def rReprB (K : PySem.W.Frag) : List V → Hp → VK → Prop := fun vs H Q => ∃ v d, vs = [v] ∧ Dp K H v d ∧ (∃ ds, d = .list ds ∨ d = .tuple ds) ∧ Shw d ∧ d.depth ≤ 50 ∧ d.shown.length ≤ sizeLine ∧ Q (.str d.shown) H
theorem call_reprB {X : Cx} (n : NoDig X.base) (hg : X.A.guards = some []) (hu : X.A.units + 64 < cLine) : CallR X (.builtin "repr") (rReprB X.K) := by
  intro pins s σ H vs us Q I r h
  obtain ⟨v, d, rfl, hd, hl, hs, hdp, hz, q⟩ := h
  cases r with
  | @cons _ u _ _ r1 rr =>
    cases rr
    obtain ⟨as, rd⟩ := Dp.reads I d v u hd r1
    have nd := n.keeps I.bk
    obtain ⟨bs, hb, hk⟩ := reprK_of (prog := X.prog) (w := X.w) nd rd hs hz
    have fin : ∀ (h' : Heap) (u : Tok) (tk : Nat), (∀ b o, s.heap.get? b = some o → h'.get? b = some o) → EP X pins σ Q (.str d.shown u) { s with heap := h', toks := tk } := fun h' u tk k => ⟨.str d.shown, H, I.kept (t' := tk) k, ⟨u, rfl⟩, q⟩
    obtain ⟨ds, hl⟩ := hl
    rcases hl with rfl | rfl
    · cases rd with
      | @list a o vs n' xs as' h1 h2 h3 h4 =>
        rw [PyData.shown] at hz fin
        unfold Shw at hs
        obtain ⟨bs, hb, hk⟩ := reprKs_of (prog := X.prog) (w := X.w) nd h4 hs (fun t ht => Nat.le_trans (listText_mem_le ht) hz)
        have r : Reads s.heap (.ref a) (.list ds) _ := .list h1 h2 h3 h4
        have hna : a ∉ bs := not_mem_of_deeper r (by rw [PyData.depth]; omega) hb
        rw [PyData.depth] at hdp
        refine call_repr_slot (T := "list") (idr := "list.__repr__") (by omega) ⟨o, h1, h2⟩ F.slot_list_repr.toG ?_
        obtain ⟨l⟩ := vs
        cases l with
        | nil =>
          have z : ReadsAll s.heap [] ds _ := h4
          cases z
          rw [PyData.shownAll, listText_nil] at fin
          exact call_list_repr_empty ⟨o, h1, h2⟩ h1 h3 ⟨_, _, rfl, fin s.heap _ _ fun _ _ e => e⟩
        | cons x l =>
          exact call_list_reprK h1 h2 h3 hna (by simpa using hk.length_eq) (fun i y e => hk.item i y (by simpa using e)) (A := X.A.in1) (g := []) hg (fun b _ => Clear.nil b) (by show X.A.units + 1 + _ < cLine; omega) (fun _ _ e => e) (fun h' u tk k => ⟨_, _, rfl, fin h' u tk k⟩) hz
    · cases rd with
      | @tuple a o vs n' xs as' h1 h2 h3 h4 =>
        rw [PyData.shown] at hz fin
        unfold Shw at hs
        obtain ⟨bs, hb, hk⟩ := reprKs_of (prog := X.prog) (w := X.w) nd h4 hs (fun t ht => Nat.le_trans (tupleText_mem_le ht) hz)
        have r : Reads s.heap (.ref a) (.tuple ds) _ := .tuple h1 h2 h3 h4
        have hna : a ∉ bs := not_mem_of_deeper r (by rw [PyData.depth]; omega) hb
        rw [PyData.depth] at hdp
        refine call_repr_slot (T := "tuple") (idr := "tuple.__repr__") (by omega) ⟨o, h1, h2⟩ F.slot_tuple_repr ?_
        exact call_tuple_reprK h1 h2 h3 hna hk (A := X.A.in1) (g := []) hg (fun b _ => Clear.nil b) (by show X.A.units + 1 + _ < cLine; omega) (fun _ _ e => e) (fun h' u tk k => ⟨_, _, rfl, fin h' u tk k⟩) hz
theorem cd_repr {K : PySem.W.Frag} {Q : PyData → Prop} {ds : List PyData} (h : ∃ d, ds = [d] ∧ (∃ xs, d = .list xs ∨ d = .tuple xs) ∧ Shw d ∧ d.depth ≤ 50 ∧ d.shown.length ≤ sizeLine ∧ Q (.str d.shown)) : CD (rReprB K) ds Q := fun F H vs j k R r => by
  obtain ⟨d, rfl, h1, h2, h3, h4, q⟩ := h
  cases k with
  | cons k1 k2 =>
    cases k2
    exact ⟨_, d, rfl, k1.dp K, h1, h2, h3, h4, r _ _ H q (.refl j) (.str _)⟩
end Dl
end
section
set_option Elab.async false
set_option linter.all false
set_option maxRecDepth 100000
namespace Dl
open PySem L2 PySem.Spec PyProof.Rows RZ

/-! ### operators whose kind is told by the data -/
section
variable {X : Cx}
def rAddA (K : PySem.W.Frag) : R2 := fun x y H Q => rI0 (fun i j => V.int (i + j)) x y H Q ∨ rCat x y H Q ∨ rCatA K x y H Q
theorem op_addA : OpR X (binaryOp .Add) (rAddA X.K) := fun pins s σ H x y v u Q I rx ry h => by
  rcases h with h | h | h
  · exact op_add pins s σ H x y v u Q I rx ry h
  · exact op_cat pins s σ H x y v u Q I rx ry h
  · exact op_catA pins s σ H x y v u Q I rx ry h
def CMulA (i j : Int) : Prop := CMulW i j ∨ CMul i j
def rMulA (K : PySem.W.Frag) : R2 := fun x y H Q => rI CMulA (fun i j => V.int (i * j)) x y H Q ∨ rRep x y H Q ∨ rRepT K x y H Q
theorem op_mulA : OpR X (binaryOp .Mult) (rMulA X.K) := fun pins s σ H x y v u Q I rx ry h => by
  rcases h with h | h | h
  · obtain ⟨i, j, rfl, rfl, c, q⟩ := h
    rcases c with c | c
    · obtain ⟨t, rfl⟩ := rx
      obtain ⟨t', rfl⟩ := ry
      exact mul_int ⟨.int _, H, I.tok _, ⟨_, rfl⟩, q⟩ c.ok
    · exact op_mul pins s σ H _ _ v u Q I rx ry ⟨i, j, rfl, rfl, c, q⟩
  · exact op_rep pins s σ H x y v u Q I rx ry h
  · exact op_repT pins s σ H x y v u Q I rx ry h
def CDivG (_ j : Int) : Prop := j ≠ 0 ∧ j.natAbs.log2 < 9000
theorem op_fdivG : OpR X (binaryOp .FloorDiv) (rI CDivG fun i j => .int (i.fdiv j)) := fun pins s σ H x y v u Q I rx ry h => by
  obtain ⟨i, j, rfl, rfl, c, q⟩ := h
  obtain ⟨t, rfl⟩ := rx
  obtain ⟨t', rfl⟩ := ry
  exact floordiv_int c.1 ⟨.int _, H, I.tok _, ⟨_, rfl⟩, q⟩ (.inl (PyProof.noPylong_of_log2 c.2))
def rEqA (K : PySem.W.Frag) : R2 := fun x y H Q => rEq x y H Q ∨ rEqD K x y H Q
def rNeA (K : PySem.W.Frag) : R2 := fun x y H Q => rNe x y H Q ∨ rNeD K x y H Q
theorem op_eqA (hu : X.A.units + 64 < cLine) : OpR X (compareOp .Eq) (rEqA X.K) := fun pins s σ H x y v u Q I rx ry h => by
  rcases h with h | h
  · exact op_eq pins s σ H x y v u Q I rx ry h
  · exact op_eqD hu pins s σ H x y v u Q I rx ry h
theorem op_neA (hu : X.A.units + 64 < cLine) : OpR X (compareOp .NotEq) (rNeA X.K) := fun pins s σ H x y v u Q I rx ry h => by
  rcases h with h | h
  · exact op_ne pins s σ H x y v u Q I rx ry h
  · exact op_neD hu pins s σ H x y v u Q I rx ry h
def rSlAny (K : PySem.W.Frag) : V → Option Int → Option Int → Hp → VK → Prop := fun x lo hi H Q => rSlL K x lo hi H Q ∨ rSlA K x lo hi H Q
theorem sl_any : SlR X (rSlAny X.K) := fun pins s σ H x v vl vu lo hi sl Q I rx hs pl pu h => by
  rcases h with h | h
  · exact sl_list pins s σ H x v vl vu lo hi sl Q I rx hs pl pu h
  · exact sl_tupA pins s σ H x v vl vu lo hi sl Q I rx hs pl pu h
end
section
variable {K : PySem.W.Frag} {Q : PyData → Prop} {x y : PyData}
theorem od_addI (h : ∃ i j, x = .int i ∧ y = .int j ∧ Q (.int (i + j))) : OD (rAddA K) x y Q := fun F H u v j kx ky R r => .inl (od_I0 (f := fun i j => i + j) h F H u v j kx ky R r)
theorem od_addL (h : ∃ xs ys, x = .list xs ∧ y = .list ys ∧ xs.length + ys.length ≤ 100000 ∧ Q (.list (xs ++ ys))) : OD (rAddA K) x y Q := fun F H u v j kx ky R r => .inr (.inl (od_cat h F H u v j kx ky R r))
theorem od_addT (h : ∃ xs ys, x = .tuple xs ∧ y = .tuple ys ∧ xs.length + ys.length ≤ 100000 ∧ Q (.tuple (xs ++ ys))) : OD (rAddA K) x y Q := fun F H u v j kx ky R r => .inr (.inr (by
  obtain ⟨xs, ys, rfl, rfl, hl, q⟩ := h
  cases kx with
  | @tup a vl _ w e ha =>
    cases ky with
    | @tup b ul _ w2 e2 hb =>
      have l1 := ha.len
      have l2 := hb.len
      refine ⟨a, b, vl, ul, rfl, rfl, SqT.of e, SqT.of e2, ?_, fun z => ?_, fun z1 z => ?_, fun z1 z p hp => ?_⟩
      · rw [l1, l2]; exact Nat.le_trans hl (by decide)
      · subst z
        have z2 : xs = [] := List.length_eq_zero_iff.mp (by simpa using l1.symm)
        subst z2
        exact r _ _ _ q (.refl j) (.tup w2 e2 hb)
      · subst z
        have z2 : ys = [] := List.length_eq_zero_iff.mp (by simpa using l2.symm)
        subst z2
        rw [List.append_nil] at q
        exact r _ _ _ q (.refl j) (.tup w e ha)
      · have g : Gro F H (upd H p (.tup (vl ++ ul))) := .new j hp
        exact r _ _ _ q g (.tup (Fr.fresh j hp) upd_same ((ha.append hb).gro g))))
theorem od_mulI (h : ∃ i j, x = .int i ∧ y = .int j ∧ CMulA i j ∧ Q (.int (i * j))) : OD (rMulA K) x y Q := fun F H u v j kx ky R r => .inl (od_I (f := fun i j => i * j) h F H u v j kx ky R r)
theorem od_eqS' {a b : Str} (q : Q (.bool (decide (a = b)))) : OD (rEqA K) (.str a) (.str b) Q := fun F H u v j kx ky R r => .inl (od_eqS ⟨a, b, rfl, rfl, q⟩ F H u v j kx ky R r)
theorem od_neS' {a b : Str} (q : Q (.bool (!decide (a = b)))) : OD (rNeA K) (.str a) (.str b) Q := fun F H u v j kx ky R r => .inl (od_neS ⟨a, b, rfl, rfl, q⟩ F H u v j kx ky R r)
theorem od_eqI' {a b : Int} (q : Q (.bool (decide (a = b)))) : OD (rEqA K) (.int a) (.int b) Q := fun F H u v j kx ky R r => .inl (od_eqI ⟨a, b, rfl, rfl, q⟩ F H u v j kx ky R r)
theorem od_neI' {a b : Int} (q : Q (.bool (!decide (a = b)))) : OD (rNeA K) (.int a) (.int b) Q := fun F H u v j kx ky R r => .inl (od_neI ⟨a, b, rfl, rfl, q⟩ F H u v j kx ky R r)
theorem od_eqD' (h : SeqAt.shaped x = true ∧ SeqAt.shaped y = true ∧ Q (.bool (PyData.eqv x y))) : OD (rEqA K) x y Q := fun F H u v j kx ky R r => .inr ⟨x, y, kx.dp K, ky.dp K, h.1, h.2.1, r _ _ H h.2.2 (.refl j) (.bl _)⟩
theorem od_neD' (h : SeqAt.shaped x = true ∧ SeqAt.shaped y = true ∧ Q (.bool (!PyData.eqv x y))) : OD (rNeA K) x y Q := fun F H u v j kx ky R r => .inr ⟨x, y, kx.dp K, ky.dp K, h.1, h.2.1, r _ _ H h.2.2 (.refl j) (.bl _)⟩
/-! slices -/
def cutD (xs : List PyData) (lo hi : Option Int) : List PyData := (xs.drop (HT.sIx xs.length 0 lo)).take (HT.sIx xs.length xs.length hi - HT.sIx xs.length 0 lo)
def SD (r : V → Option Int → Option Int → Hp → VK → Prop) (x : PyData) (lo hi : Option Int) (Q : PyData → Prop) : Prop := ∀ (F : Fr) (H : Hp) (u : V), F.J H → Dq F.W H u x → ∀ R : VK, (∀ d w H2, Q d → Gro F H H2 → Dq F.W H2 w d → R w H2) → r u lo hi H R
def EO (B : Fr) (env : List Ent) (to : TO) (Q : Option Int → Prop) : Prop := ∀ (O : Lk) (σ : L2.St) (H : Hp), (B.lock O).J H → Slots (B.lock O).W O H σ env → ∀ R : Option Int → Hp → Prop, (∀ o H2, Q o → Gro (B.lock O) H H2 → R o H2) → to σ H R
variable {B : Fr} {env : List Ent} {te : TE} {tl th : TO}
theorem eo_none {P : Option Int → Prop} (q : P none) : EO B env tNoPart P := fun O σ H j s R r => r none H q (.refl j)
theorem eo_some {P : Option Int → Prop} (h : EW B env te fun d => ∃ i, d = .int i ∧ P (some i)) : EO B env (tPart te) P := fun O σ H j s R r =>
  h O σ H j s _ fun d v H2 ⟨i, e, q⟩ g k => by
    subst e
    cases k
    exact ⟨i, rfl, r _ H2 q g⟩
theorem ew_sl {r : V → Option Int → Option Int → Hp → VK → Prop} (h : EW B env te fun x => EO B env tl fun lo => EO B env th fun hi => SD r x lo hi Q) : EW B env (tSl r te tl th) Q := fun O σ H j s R k =>
  h O σ H j s _ fun x u H2 q g kx => q O σ H2 g.2 (s.gro g) _ fun lo H3 q3 g3 => q3 O σ H3 g3.2 ((s.gro g).gro g3) _ fun hi H4 q4 g4 =>
    q4 (B.lock O) H4 u g4.2 ((kx.gro g3).gro g4) R fun d w H5 qd g5 kd => k d w H5 qd (((g.trans g3).trans g4).trans g5) kd
theorem cut_map {W : Addr → Prop} {H : Hp} {vl : List V} {ds : List PyData} (k : DqA W H vl ds) (lo hi : Option Int) : DqA W H (cutV vl lo hi) (cutD ds lo hi) := by
  unfold cutV cutD
  rw [k.len]
  exact (k.drop _).take _
theorem sd_list {lo hi : Option Int} (h : ∃ ds, x = .list ds ∧ Q (.list (cutD ds lo hi))) : SD (rSlAny K) x lo hi Q := fun F H u j kx R r => .inl (by
  obtain ⟨ds, rfl, q⟩ := h
  cases kx with
  | @lst a vl _ w e ha =>
    refine ⟨a, vl, rfl, SqL.of e, fun p hp => ?_⟩
    have g : Gro F H (upd H p (.lst (cutV vl lo hi))) := .new j hp
    exact r _ _ _ q g (.lst (Fr.fresh j hp) upd_same ((cut_map ha lo hi).gro g)))
theorem sd_tup {lo hi : Option Int} (h : ∃ ds, x = .tuple ds ∧ Q (.tuple (cutD ds lo hi))) : SD (rSlAny K) x lo hi Q := fun F H u j kx R r => .inr (by
  obtain ⟨ds, rfl, q⟩ := h
  cases kx with
  | @tup a vl _ w e ha =>
    refine ⟨a, vl, rfl, SqT.of e, fun z => ?_, fun z p hp => ?_⟩
    · have e2 : cutD ds lo hi = ds := by
        unfold cutD
        rw [← ha.len, z.1, z.2, ha.len, List.drop_zero, Nat.sub_zero, List.take_length]
      rw [e2] at q
      exact r _ _ _ q (.refl j) (.tup w e ha)
    · have g : Gro F H (upd H p (.tup (cutV vl lo hi))) := .new j hp
      exact r _ _ _ q g (.tup (Fr.fresh j hp) upd_same ((cut_map ha lo hi).gro g)))
/-! isinstance(x, T), T a built-in type -/
def tyName : PyData → String
  | .none => "NoneType"
  | .bool _ => "bool"
  | .int _ => "int"
  | .str _ => "str"
  | .list _ => "list"
  | .tuple _ => "tuple"
  | .dict _ => "dict"
theorem ew_isi {T : String} (h : EW B env te fun d => ∃ b, kitB (tyName d) T = some b ∧ Q (.bool b)) : EW B env (tCB (rIsi K) (tCons te (tCons (tC (.ty T)) tNil))) Q := fun O σ H j s R r =>
  h O σ H j s _ fun d v H2 ⟨b, e, q⟩ g k => by
    refine ⟨v, .ty T, .type (tyName d), .type T, b, rfl, .ty T, .base ?_, kit_ty e, r _ _ H2 q g (.bl _)⟩
    cases k with
    | non => exact .non
    | bl b => exact .bl b
    | int i => exact .int i
    | str x => exact .str x
    | lst w e2 ha => exact .lst e2
    | tup w e2 ha => exact .tup e2
theorem cd_int2 {ds : List PyData} (h : ∃ b : Bool, ds = [.bool b] ∧ Q (.int (if b = true then 1 else 0))) : CD (fun vs H R => (∃ i, vs = [V.int i] ∧ R (V.int i) H) ∨ ∃ k, vs = [V.bl k] ∧ R (V.int (if k = true then 1 else 0)) H) ds Q := fun F H vs j k R r => by
  obtain ⟨b, rfl, q⟩ := h
  cases k with
  | cons k1 k2 =>
    cases k2
    cases k1
    exact .inr ⟨b, rfl, r _ _ H q (.refl j) (.int _)⟩
end
end Dl
end
section
set_option Elab.async false
set_option linter.all false
set_option maxRecDepth 100000
/-! the same rules with the written part named: inside a comprehension's block the block's own context must not show -/
namespace Dl
open PySem L2 PySem.Spec PyProof.Rows RZ
section
variable {X : Cx} {K : PySem.W.Frag}
theorem kAdd (h : X.K = K) : OpR X (binaryOp .Add) (rAddA K) := h ▸ op_addA
theorem kMul (h : X.K = K) : OpR X (binaryOp .Mult) (rMulA K) := h ▸ op_mulA
theorem kEq (h : X.K = K) (hu : X.A.units + 64 < cLine) : OpR X (compareOp .Eq) (rEqA K) := h ▸ op_eqA hu
theorem kNe (h : X.K = K) (hu : X.A.units + 64 < cLine) : OpR X (compareOp .NotEq) (rNeA K) := h ▸ op_neA hu
theorem kIn (h : X.K = K) : OpR X (compareOp .In) (rIn K false) := h ▸ op_in_seq
theorem kIx (h : X.K = K) : IxR X (rIx K) := h ▸ ix_seq
theorem kSl (h : X.K = K) : SlR X (rSlAny K) := h ▸ sl_any
def rLen (K : PySem.W.Frag) : List V → Hp → VK → Prop := fun xs H Q => ∃ p ys, xs = [V.ref p] ∧ (SqL K H p ys ∨ SqT K H p ys) ∧ Q (V.int ys.length) H
theorem kLen (h : X.K = K) : CallR X (.builtin "len") (rLen K) := h ▸ call_len_seq
def rTup (K : PySem.W.Frag) : List V → Hp → VK → Prop := fun xs H Q => ∃ p ys, xs = [V.ref p] ∧ ((SqL K H p ys ∧ ∀ l : Addr, H l = none → Q (V.ref l) (upd H l (HO.tup ys))) ∨ SqT K H p ys ∧ Q (V.ref p) H)
theorem kTup (h : X.K = K) : CallR X (.type "tuple") (rTup K) := h ▸ call_tuple_of
def rLst (K : PySem.W.Frag) : List V → Hp → VK → Prop := fun xs H Q => ∃ p ys, xs = [V.ref p] ∧ (SqL K H p ys ∨ SqT K H p ys) ∧ ∀ l : Addr, H l = none → Q (V.ref l) (upd H l (HO.lst ys))
theorem kLst (h : X.K = K) : CallR X (.type "list") (rLst K) := h ▸ call_list_of
theorem kSum (h : X.K = K) (hc : X.calm = true) : CallR X (.builtin "sum") (rSum K) := h ▸ cr_sum hc
theorem kAll (h : X.K = K) (hc : X.calm = true) : CallR X (.builtin "all") (rAll K) := h ▸ cr_all hc
theorem kAny (h : X.K = K) (hc : X.calm = true) : CallR X (.builtin "any") (rAny K) := h ▸ cr_any hc
theorem kIsi (h : X.K = K) : CallR X (.builtin "isinstance") (rIsi K) := h ▸ call_isi
theorem kRepr (h : X.K = K) (n : NoDig X.base) (hg : X.A.guards = some []) (hu : X.A.units + 64 < cLine) : CallR X (.builtin "repr") (rReprB K) := h ▸ call_reprB n hg hu
def rAbs : List V → Hp → VK → Prop := fun xs H Q => ∃ i, xs = [V.int i] ∧ Q (V.int (if i < 0 then -i else i)) H
theorem kAbs : CallR X (.builtin "abs") rAbs := call_abs
def rInt1 : List V → Hp → VK → Prop := fun xs H Q => (∃ i, xs = [V.int i] ∧ Q (V.int i) H) ∨ ∃ k, xs = [V.bl k] ∧ Q (V.int (if k = true then 1 else 0)) H
theorem kInt : CallR X (.type "int") rInt1 := call_int1
def rMax2 : List V → Hp → VK → Prop := fun xs H Q => ∃ i j, xs = [V.int i, V.int j] ∧ Q (V.int (if j > i then j else i)) H
theorem kMax2 (hc : X.calm = true) : CallR X (.builtin "max") rMax2 := call_max2 hc
theorem kTg {es : List Expr} {k : Nat} {t : TGs} {n : Nat} {pos : Pos} (hK : X.K = K) (hc : X.calm = true) (h : PGs X es t)
   (hn : (assignEach es X.env).length = n := by rfl) (hst : (assignEach es X.env).findIdx? (·.1) = none := by rfl) : PG X (.Tuple es k pos) (gTup K n t) := hK ▸ pg_tup hc h hn hst
theorem kList {tg l : Expr} {tl : TE} (hK : X.K = K) (hl : PE X l tl) : PI X tg l (iList K tl) := hK ▸ pi_list hl
theorem kTuple {tg l : Expr} {tl : TE} (hK : X.K = K) (hl : PE X l tl) : PI X tg l (iTup K tl) := hK ▸ pi_tup hl
theorem kEnum {e : Expr} {ta : TA} {p pos tpos : Pos} {elts : List Expr} {kk : Nat} (hK : X.K = K) (hg : Gl X "enumerate") (hm : X.mg "enumerate" = none) (ha : PA X [e] ta) (hs : starEach [e] X.env = [(false, eval e X.env)] := by rfl) :
    PI X (.Tuple elts kk tpos) (.Call (.Name "enumerate" p) [e] [] pos) (iEnum K ta) := hK ▸ pi_enum hg hm ha hs
theorem kZip {e e2 : Expr} {ta : TA} {p pos tpos : Pos} {elts : List Expr} {kk : Nat} (hK : X.K = K) (hg : Gl X "zip") (hm : X.mg "zip" = none) (ha : PA X [e, e2] ta)
    (hs : starEach [e, e2] X.env = (false, eval e X.env) :: starEach [e2] X.env := by rfl) (hpl : (backTo pos (starEach [e2] X.env)).any (·.1) = false := by rfl) :
    PI X (.Tuple elts kk tpos) (.Call (.Name "zip" p) [e, e2] [] pos) (iZipA K ta) := hK ▸ pi_zipA hg hm ha hs hpl
theorem kBm {o e : Expr} {es : List Expr} {to : TE} {t : TA} {T id : String} {name : Str} {r : V → List V → Hp → VK → Prop} {apos cpos : Pos} (hK : X.K = K) (pa : PlainAttrs T) (slot : Slot T name id) (hty : typeOf (.builtin id) = pure (.type "method_descriptor")) (hm : MtM X id r) (ho : PE X o to) (ha : PA X (e :: es) t) (hbase : attributeBase o name X.env (eval o X.env) = eval o X.env := by rfl) (hfew : ((backTo cpos (starEach (e :: es) X.env)).all (fun x => !x.1) && (backToKw cpos (keywordEach [] X.env)).all (fun x => x.1.isSome) && decide ((e :: es).length + ([] : List Keyword).length + (if ([] : List Keyword).isEmpty then 0 else 1) < 30)) = true := by rfl) (hline : (apos.endLine == cpos.line) = true := by rfl) (hs : starEach (e :: es) X.env = (false, eval e X.env) :: starEach es X.env := by rfl) (hplain : (backTo cpos (starEach es X.env)).any (·.1) = false := by rfl) :
    PE X (.Call (.Attribute o name apos) (e :: es) [] cpos) (tBM K T r to t) := hK ▸ pe_bm pa slot hty hm ho ha hbase hfew hline hs hplain
end
section
variable {K : PySem.W.Frag} {Q : PyData → Prop} {ds : List PyData}
theorem qLen (h : ∃ x xs, ds = [x] ∧ itemsOf x = some xs ∧ Q (.int xs.length)) : CD (rLen K) ds Q := cd_len h
theorem qTup (h : ∃ x xs, ds = [x] ∧ itemsOf x = some xs ∧ Q (.tuple xs)) : CD (rTup K) ds Q := cd_tuple h
theorem qLst (h : ∃ x xs, ds = [x] ∧ itemsOf x = some xs ∧ Q (.list xs)) : CD (rLst K) ds Q := cd_list h
theorem qAbs (h : ∃ i, ds = [.int i] ∧ Q (.int (if i < 0 then -i else i))) : CD rAbs ds Q := cd_abs h
theorem qInt (h : ∃ i, ds = [.int i] ∧ Q (.int i)) : CD rInt1 ds Q := cd_int1 h
theorem qIntB (h : ∃ b : Bool, ds = [.bool b] ∧ Q (.int (if b = true then 1 else 0))) : CD rInt1 ds Q := cd_int2 h
theorem qMax2 (h : ∃ i k, ds = [.int i, .int k] ∧ Q (.int (if k > i then k else i))) : CD rMax2 ds Q := cd_max2 h
end
end Dl
end
section
set_option Elab.async false
set_option linter.all false
set_option maxRecDepth 100000
/-! promises that hold where no repr is under way: what a def that shows lists asks of its callers -/
namespace Dl
open PySem L2 PySem.Spec PyProof.Rows
structure FnG (P : Program) (w : World) (K : PySem.W.Frag) (mg : Str → Option Value) (base : Heap) (k : Nat) (f : Addr) (fd : FuncData) (ps : List Str) (sp : Sp) : Prop where
  len : ∀ vs H Q E, sp vs H Q E → vs.length = ps.length
  go : ∀ (A : Around) (out : List Env) (s : Shared) (H : Hp) (as : Args) (us : List Value) (vs : List V) (Q : VK) (E : XK), Room k A → A.guards = some [] → Env0 P w K mg base A out s H → BindsTo s fd as (ps.zip us) → Vals vs us →
    sp vs H Q E → codeAny (model P w) A (.call (.ref f) as) (CR CX0 out P w H s Q E) s
section
variable {P : Program} {w : World} {K : PySem.W.Frag} {mg : Str → Option Value} {base : Heap} {k : Nat} {f : Addr} {fd : FuncData} {ps : List Str} {sp : Sp}
theorem toG (F : FnOk P w K mg base CX0 k f fd ps sp) : FnG P w K mg base k f fd ps sp := ⟨F.len, fun A out s H as us vs Q E r _ e b v h => F.run A out s H as us vs Q E r e b v h⟩
theorem FnG.mono {j : Nat} (F : FnG P w K mg base j f fd ps sp) (h : j ≤ k) : FnG P w K mg base k f fd ps sp := ⟨F.len, fun A out s H as us vs Q E r => F.go A out s H as us vs Q E (r.mono h)⟩
/-- a def by its body, no repr being under way -/
theorem fnG_of {name qual : Str} {params : Arguments} {body : List Stmt} {scope : Scope} {dV kV doc pm cdv ct oc : Value} {an od : Option Addr} {osl : Array (Option Value)} {N : List Str}
    (lk : K.lookup f = some ⟨oc, od, .func (PySem.W.fnOf name qual params body scope dV kV doc pm an cdv ct), osl⟩) (hcd : PySem.W.codeIn K cdv qual = true) (S : FnScope N ps scope) (hlen : ∀ vs H Q E, sp vs H Q E → vs.length = ps.length)
    (hb : ∀ (A : Around) (out : List Env) (s : Shared) (H : Hp) (vs : List V) (Q : VK) (E : XK), Room k (A.deeper (envOfC qual scope s.heap.objs.size f cdv)) → A.guards = some [] → sp vs H Q E →
      ∃ t, PSs (cxOf CX0 P w K mg base N qual scope f cdv A out s H E) body t ∧ t { nx := fun _ H' => Q .non H', rt := Q } (L2.start N vs) H) :
    FnG P w K mg base (k + 1) f (PySem.W.fnOf name qual params body scope dV kV doc pm an cdv ct) ps sp := by
  refine ⟨hlen, ?_⟩
  intro A out s H as us vs Q E room gd e0 bnd rel hs
  have kin : K.In s.heap := e0.mod.kin.keeps (fun b o z => (e0.bs b o z).1)
  have lm : s.heap.NoLimit := e0.mod.nolimit.keeps (fun b o z => (e0.bs b o z).1)
  have kinds : ∀ y, y ∈ ps.zip us → scope.names.lookup y.1 = some .local ∨ (scope.names.lookup y.1 = some .cell ∧ ((cellsFrom (s.heap.objs.size + 1) scope.names []).lookup y.1).isSome = true) := by
    intro y hy
    rcases S.par y.1 (List.of_mem_zip (a := y.1) (b := y.2) hy).1 with z | z
    · left; exact z
    · right; exact ⟨z, PySem.W.cellsFrom_some _ _ _ (Or.inl z)⟩
  refine codeAny_call_function room.depth (kin _ _ lk) rfl S.co S.gen rfl (PySem.W.codeRec_of kin hcd) (bnd _ _ _ _ (wpAny_newFunctionEnv_cells S.kind kinds fun env ee s1 st => ?_))
  subst ee
  refine ⟨lm.keeps st.toInCall.keep, codeAny_func ?_⟩
  obtain ⟨t, ht, hq⟩ := hb A out s H vs Q E (room.deeper _) gd hs
  refine wpAny_mono (ht.run [] s1 (L2.start N vs) H _ (inv_start S room.hd e0 (hlen _ _ _ _ hs) rel st) hq) (fun fl s' z => ?_) (fun _ _ z => z)
  cases fl with
  | ret u =>
    obtain ⟨v, _, H', J, rv, q⟩ := z
    exact ⟨v, H', J.os, J.bare, J.base, J.hok, rv, q⟩
  | next =>
    obtain ⟨_, H', J, q⟩ := z
    exact ⟨V.non, H', J.os, J.bare, J.base, J.hok, rfl, q⟩
  | brk => exact z.elim fun _ z => z.elim fun _ z => z.2.elim
  | cont => exact z.elim fun _ z => z.elim fun _ z => z.2.elim
theorem funG {x qual : Str} {st : Stmt} {N : List Str} (F : Fun K x qual st f fd) (S : FnScope N ps (defScope st)) (len : ∀ vs H Q E, sp vs H Q E → vs.length = ps.length)
    (hb : ∀ (cdv : Value) (A : Around) (out : List Env) (s : Shared) (H : Hp) (vs : List V) (Q : VK) (E : XK), Room k (A.deeper (envOfC qual (defScope st) s.heap.objs.size f cdv)) → A.guards = some [] → sp vs H Q E →
      ∃ t, PSs (cxOf CX0 P w K mg base N qual (defScope st) f cdv A out s H E).nox (defBody st) t ∧ t { nx := fun _ H' => Q .non H', rt := Q } (L2.start N vs) H) : FnG P w K mg base (k + 1) f fd ps sp := by
  obtain ⟨oc, od, kV, doc, pm, an, cdv, ct, osl, rfl, lk, hcd⟩ := F.ex
  exact fnG_of lk hcd S len fun A out s H vs Q E room gd hs => (hb cdv A out s H vs Q E room gd hs).elim fun t z => ⟨t, z.1.nox, z.2⟩
end
theorem guards_deeper {A : Around} {env : Env} (h : A.guards = some []) : (A.deeper env).guards = some [] := h
/-- what a def of the module is, for its callers -/
def HasG (P : Program) (w : World) (K : PySem.W.Frag) (mg : Str → Option Value) (base : Heap) (x : Str) (k : Nat) (ps : List Str) (sp : Sp) : Prop :=
  ∃ f fd, FnG P w K mg base k f fd ps sp ∧ mg x = some (.ref f) ∧ PySem.W.keepIn K (.ref f) = true ∧ Binds K fd ps []
theorem HasG.call {X : Cx} {x : Str} {k j : Nat} {ps : List Str} {sp : Sp} {p pos : Pos} {e : Expr} {es : List Expr} {t : TA} (h : HasG X.prog X.w X.K X.mg X.base x k ps sp) (hr : Room j X.A) (gd : X.A.guards = some []) (ha : PA X (e :: es) t) (hk : k ≤ j := by decide) (hg : Gl X x := by rfl)
    (hdb : (x == ("__debug__" : Str)) = false := by decide) (he : starEach (e :: es) X.env = (false, eval e X.env) :: starEach es X.env := by rfl) (hpl : (backTo pos (starEach es X.env)).any (·.1) = false := by rfl) :
    PE X (.Call (.Name x p) (e :: es) [] pos) (tCall sp [] E0 t) := by
  obtain ⟨f, fd, F, m, kp, b⟩ := h
  constructor
  intro pins s σ H Q I h
  refine wpAny_Call_Name_kw (ld_glob I hg m (PySem.W.callWith_K (h₀ := X.base) I.ok.mod.kin kp (thn (ha.run pos pins s σ H _ I h) ?_) he hpl) hdb)
  rintro us s1 ⟨vs, H1, I1, r, q⟩
  refine ⟨I1.kIn, ?_⟩
  have q' : sp vs H1 Q E0 := by
    have z : sp (vs ++ []) H1 Q E0 := q
    rw [List.append_nil] at z
    exact z
  have hl : us.length = ps.length := by rw [← r.length]; exact F.len _ _ _ _ q'
  have bb := b s1 us I1.kIn (by simpa using hl)
  rw [List.append_nil] at bb
  refine wpAny_call (codeAny_mono (F.go X.A X.stack s1 H1 ⟨us, []⟩ us vs Q E0 (hr.mono hk) gd I1.env0 bb r q') ?_)
  intro rr s' hq
  cases rr with
  | error e => exact hq.elim
  | ok fl =>
    cases fl with
    | ret u => exact I1.after hq
    | next => exact hq.elim
    | brk => exact hq.elim
    | cont => exact hq.elim
theorem Has.toG {P : Program} {w : World} {K : PySem.W.Frag} {mg : Str → Option Value} {base : Heap} {x : Str} {k : Nat} {ps : List Str} {sp : Sp} (h : Has P w K mg base x k ps sp) : HasG P w K mg base x k ps sp := by
  obtain ⟨f, fd, F, r⟩ := h
  exact ⟨f, fd, Dl.toG F, r⟩
theorem fn_dlG {P : Program} {w : World} {K : PySem.W.Frag} {mg : Str → Option Value} {base : Heap} {x qual : Str} {st : Stmt} {f : Addr} {fd : FuncData} {N ps : List Str} {k : Nat} {m : Fr → List Ent → (PyData → Prop) → Prop}
    (F : Fun K x qual st f fd) (S : FnScope N ps (defScope st)) (len : ∀ B es R, m B es R → es.length = ps.length)
    (body : ∀ (cdv : Value) (A : Around) (outer : List Env) (s : Shared) (H : Hp) (E : XK), Room k (A.deeper (envOfC qual (defScope st) s.heap.objs.size f cdv)) → (A.deeper (envOfC qual (defScope st) s.heap.objs.size f cdv)).guards = some [] → ∀ (B : Fr) (es : List Ent) (R : PyData → Prop), m B es R →
      ∃ t, PSs (cxOf CX0 P w K mg base N qual (defScope st) f cdv A outer s H E).nox (defBody st) t ∧ SW B (es ++ List.replicate (N.length - ps.length) .non) t ⟨fun _ => R .none, R, fun _ => False, fun _ => False⟩) :
    FnG P w K mg base (k + 1) f fd ps (spG m) := by
  refine funG F S (fun vs H Q E ⟨B, O, es, R, hm, _, _, sl, _⟩ => (slots_len sl).trans (len B es R hm)) fun cdv A outer s H vs Q E hr gd ⟨B, O, es, R, hm, no, j, sl, q⟩ => ?_
  obtain ⟨t, ht, hw⟩ := body cdv A outer s H E hr gd B es R hm
  exact ⟨t, ht, sp_run (len B es R hm) no j sl q hw⟩
section
variable {B : Fr} {env : List Ent}
theorem ew_varE {i : Nat} {Q : PyData → Prop} (h : ∃ d, env[i]? = some (.dat d) ∧ Q d) : EW B env (tVar i) Q := by
  obtain ⟨d, e, q⟩ := h
  exact ew_var e q
theorem ea_rawE {i : Nat} {tr : TA} {Q : List Ent → Prop} (h : ∃ v, env[i]? = some (.raw v) ∧ EA B env tr fun es => Q (.raw v :: es)) : EA B env (tCons (tVar i) tr) Q := by
  obtain ⟨v, e, q⟩ := h
  exact ea_raw e q
end
end Dl
end
section
set_option Elab.async false
set_option linter.all false
set_option maxRecDepth 100000
/-! more readings: lcm, any of a tuple, tuple * any int, max of a list, enumerate of a tuple, zip of a tuple and a list -/
namespace Dl
open PySem L2 PySem.Spec PyProof.Rows RZ

/-! ### math.lcm -/
def rLcm : List V → Hp → VK → Prop := fun vs H Q => ∃ a b : Int, vs = [.int a, .int b] ∧ a.natAbs < 2 ^ 9000 ∧ b.natAbs < 2 ^ 9000 ∧ Q (.int ((Nat.lcm a.natAbs b.natAbs : Nat) : Int)) H
theorem log_lt {n k : Nat} (h : n < 2 ^ k) (hk : 0 < k) : n.log2 < k := PySem.Flt.log2_lt_of hk h
theorem cr_lcm {X : Cx} : CallR X (.builtin "math.lcm") rLcm := by
  intro pins s σ H vs us Q I r h
  obtain ⟨a, b, rfl, ha, hb, q⟩ := h
  obtain ⟨t, u, rfl⟩ := Vals.int2 r
  have m1 : max 1 a.natAbs < 2 ^ 9000 := Nat.max_lt.mpr ⟨Nat.one_lt_two_pow (by decide), ha⟩
  have m2 : max a.natAbs b.natAbs < 2 ^ 9000 := Nat.max_lt.mpr ⟨ha, hb⟩
  have e1 := log_lt m1 (by decide)
  have e2 := log_lt m2 (by decide)
  have hl : a.natAbs.lcm b.natAbs < 2 ^ 18000 := by
    have z : a.natAbs.lcm b.natAbs ≤ a.natAbs * b.natAbs := by
      unfold Nat.lcm
      exact Nat.div_le_self _ _
    refine Nat.lt_of_le_of_lt z ?_
    have w : a.natAbs * b.natAbs < 2 ^ 9000 * 2 ^ 9000 := Nat.mul_lt_mul'' ha hb
    rw [← Nat.pow_add] at w
    exact w
  have e3 := log_lt hl (by decide)
  have one : Nat.lcm 1 a.natAbs = a.natAbs := by simp [Nat.lcm]
  have hsz : ((((Nat.lcm 1 a.natAbs).lcm b.natAbs : Nat) : Int)).natAbs.log2 < bitsLine := by
    rw [one, Int.natAbs_natCast]
    exact Nat.lt_trans e3 (by unfold bitsLine; decide)
  have g := PySem.W.mg_run_lcm a t b u (by omega) (by omega) hsz
  rw [one] at g
  exact call_function_meets PySem.W.MGF.kind_lcm PySem.W.MGF.plain_lcm PySem.W.MGF.entry_lcm (PySem.W.MGF.args_lcm _ _) g.meets ⟨.int _, H, I.tok _, ⟨_, rfl⟩, q⟩
theorem cd_lcm {Q : PyData → Prop} {ds : List PyData} (h : ∃ a b : Int, ds = [.int a, .int b] ∧ a.natAbs < 2 ^ 9000 ∧ b.natAbs < 2 ^ 9000 ∧ Q (.int ((Nat.lcm a.natAbs b.natAbs : Nat) : Int))) : CD rLcm ds Q := fun F H vs j k R r => by
  obtain ⟨a, b, rfl, ha, hb, q⟩ := h
  cases k with
  | cons k1 k2 =>
    cases k2 with
    | cons k2 k3 =>
      cases k3
      cases k1
      cases k2
      exact ⟨a, b, rfl, ha, hb, r _ _ H q (.refl j) (.int _)⟩

/-! ### any(tuple of ints) -/
abbrev tupIt (l : Addr) : Obj := { cls := .type "tuple_iterator", data := .fields #[.ref l, .int 0 0] }
def rAnyT (K : PySem.W.Frag) : List V → Hp → VK → Prop := fun vs H Q => ∃ (a : Addr) (ns : List Int), vs = [V.ref a] ∧ SqT K H a (ns.map V.int) ∧ Q (.bl (ns.any fun n => n != 0)) H
theorem begin_anyT {prog : Program} {w : World} {A : Around} {E : Value → Shared → Prop} {s : Shared} {l : Addr} {items : Array Value} {Q : Value → Shared → Prop} (hl : s.heap.IsTuple l items)
    (go : ∀ z : Shared, z = { s with heap := s.heap.push (tupIt l) } → z.heap.IsTupleIter s.heap.objs.size l 0 → z.heap.IsTuple l items → l ≠ s.heap.objs.size → Q (.ref s.heap.objs.size) z) : wpAny (model prog w) A (pyIter (.ref l)) Q E s := by
  refine wpAny_pyIter_tuple hl (go _ rfl ⟨_, Heap.get?_push_size _ rfl, rfl, rfl⟩ (hl.push _) ?_)
  obtain ⟨o, e, _⟩ := id hl
  exact Nat.ne_of_lt (Heap.lt_size e)
theorem int_there {v : Value} : ∀ {its : List Value} {ns : List Int}, PyProof.Rows.IntsAre its ns → ∀ i : Nat, its[i]? = some v → ∃ t, v = .int (ns.getD i 0) t
  | _, _, .nil, i, h => by rw [List.getElem?_nil] at h; cases h
  | _, _, .cons n t _, 0, h => by rw [List.getElem?_cons_zero] at h; cases h; exact ⟨t, rfl⟩
  | _, _, .cons n t r, i + 1, h => by rw [List.getElem?_cons_succ] at h; exact int_there r i h
theorem truth_ints {prog : Program} {w : World} {A : Around} {its : List Value} {ns : List Int} (r : PyProof.Rows.IntsAre its ns) :
    TruthOf prog w A (fun i v => its.toArray[i]? = some v) (fun i => ns.getD i 0 != 0) := fun i v s Q E there q => by
  obtain ⟨t, rfl⟩ := int_there r i (by rw [← List.getElem?_toArray]; exact there)
  exact PySem.P.truthy_int q
theorem any_rangeI (ns : List Int) : (List.range ns.length).any (fun i => ns.getD i 0 != 0) = ns.any fun n => n != 0 := by
  induction ns with
  | nil => rfl
  | cons b r ih =>
    rw [List.any_cons, ← ih, List.length_cons, List.range_succ_eq_map, List.any_cons, List.any_map]
    rfl
theorem cr_anyT {X : Cx} (calm : X.calm = true) : CallR X (.builtin "any") (rAnyT X.K) := by
  rintro pins s σ H vs us Q I r ⟨a, ns, rfl, hs, q⟩
  obtain ⟨its, rv, at0, _⟩ := I.tuple hs
  have ri := rv.ints
  rw [Vals.ref1 r]
  refine call_any_walk (begin_anyT (show s.heap.IsTuple a its.toArray from at0) fun z ez it0 tu hne => ?_)
  subst ez
  refine ⟨_, _, _, _, _, _, _, rfl, Walks.tuple (A := X.A.in1) (I.ok.hd calm) _ a hne its.toArray, ⟨it0, tu⟩, truth_ints ri, fun h' tk stay => ?_⟩
  have grown : ∀ b o, s.heap.get? b = some o → h'.get? b = some o := fun b o e => by
    refine stay b o (fun m => ?_) (Heap.get?_push_of_some _ e)
    rw [List.mem_singleton] at m
    exact Nat.lt_irrefl _ (m ▸ Heap.lt_size e)
  refine ⟨.bl _, H, I.kept grown, ?_, q⟩
  rw [← any_rangeI, ← ri.length, ← List.size_toArray]
  rfl
theorem kAnyT {X : Cx} {K : PySem.W.Frag} (h : X.K = K) (hc : X.calm = true) : CallR X (.builtin "any") (rAnyT K) := h ▸ cr_anyT hc
theorem cd_anyT {K : PySem.W.Frag} {Q : PyData → Prop} {ds : List PyData} (h : ∃ ns : List Int, ds = [.tuple (ns.map PyData.int)] ∧ Q (.bool (ns.any fun n => n != 0))) : CD (rAnyT K) ds Q := fun F H vs j k R r => by
  obtain ⟨ns, rfl, q⟩ := h
  cases k with
  | cons k1 k2 =>
    cases k2
    cases k1 with
    | tup w e ha =>
      have z := ha.ints
      subst z
      exact ⟨_, ns, rfl, SqT.of e, r _ _ H q (.refl j) (.bl _)⟩

/-! ### max of a list of ints -/
theorem kMaxL {X : Cx} {K : PySem.W.Frag} (h : X.K = K) (hc : X.calm = true) : CallR X (.builtin "max") (rMax K) := h ▸ cr_max hc
theorem cd_maxL {K : PySem.W.Frag} {Q : PyData → Prop} {ds : List PyData} (h : ∃ ns : List Int, ds = [.list (ns.map PyData.int)] ∧ 0 < ns.length ∧ ∀ m, m ∈ ns → (∀ y, y ∈ ns → y ≤ m) → Q (.int m)) : CD (L2.rMax K) ds Q := fun F H vs j k R r => by
  obtain ⟨ns, rfl, hl, q⟩ := h
  cases k with
  | cons k1 k2 =>
    cases k2
    cases k1 with
    | lst w e ha =>
      have z := ha.ints
      subst z
      exact ⟨_, ns, rfl, SqL.of e, hl, fun m h1 h2 => r _ _ H (q m h1 h2) (.refl j) (.int _)⟩

/-! ### tuple * int, the int 1 or below -/
theorem tuple_mul1 (l : Addr) (items : Array Value) (n : Nat) (dd : Option Addr) (sl : Array (Option Value)) (u : Tok) :
    Meets (Builtin.«tuple.__mul__» ⟨[.ref l, .int 1 u], []⟩) (fun _ R s => s.heap.get? l = some { cls := .type "tuple", dict := dd, data := .seq items n, slots := sl } ∧ R (.ok (.ret (Value.ref l))) s) :=
  .of_wp fun prog w A R s h => by
    obtain ⟨hp, g, d, tk, os⟩ := s
    obtain ⟨hl, h⟩ := h
    have f1 := AutoSeq1.idx_int
    have c1 : (items.isEmpty || (1 : Int) == 1) = true := by rw [show ((1 : Int) == 1) = true from rfl, Bool.or_true]
    wp_walk using wpAny_loadPart' hl
    repeat (first
      | (refine wpAny_ite_true (decide_eq_true c1) ?_; wp_walk using wpAny_loadPart' hl)
      | (refine wpAny_ite_true c1 ?_; wp_walk using wpAny_loadPart' hl))
    all_goals exact ⟨_, rfl, h⟩
theorem tuple_mul0 (l : Addr) (items : Array Value) (n : Nat) (dd : Option Addr) (sl : Array (Option Value)) (u : Tok) (c1 : (items.isEmpty || (0 : Int) == 1) = false) :
    Meets (Builtin.«tuple.__mul__» ⟨[.ref l, .int 0 u], []⟩) (fun _ R s => s.heap.get? l = some { cls := .type "tuple", dict := dd, data := .seq items n, slots := sl } ∧
      R (.ok (.ret (Value.ref s.heap.objs.size))) { s with heap := s.heap.push { cls := Value.type "tuple", data := Data.seq #[] }, toks := s.toks }) :=
  .of_wp fun prog w A R s h => by
    obtain ⟨hp, g, d, tk, os⟩ := s
    obtain ⟨hl, h⟩ := h
    have f1 := AutoSeq1.idx_int
    wp_walk using wpAny_loadPart' hl
    repeat (first
      | (refine wpAny_ite_false (decide_eq_false (by rw [c1]; exact Bool.false_ne_true)) ?_; wp_walk using wpAny_loadPart' hl))
    all_goals exact ⟨_, rfl, h⟩
/-! the rule of tuple * int, for ints of at least 0 -/
def rRepN (K : PySem.W.Frag) : R2 := fun x y H Q => ∃ l k xs, x = .ref l ∧ y = .int k ∧ SqT K H l xs ∧ xs ≠ [] ∧ ((k = 1 ∧ Q (.ref l) H) ∨ (k = 0 ∧ ∀ p, H p = none → Q (.ref p) (upd H p (.tup []))))
theorem op_repN {X : Cx} : OpR X (binaryOp .Mult) (rRepN X.K) := by
  intro pins s σ H x y v u Q I rx ry h
  obtain ⟨l, k, xs, rfl, rfl, hT, hne, h⟩ := h
  cases rx
  obtain ⟨t, rfl⟩ := ry
  obtain ⟨its, r, ⟨⟨cls, dd, data, sl⟩, ho, hc, n, hd⟩, hs⟩ := I.tuple hT
  simp only at hc hd
  subst hc hd
  have hn : its ≠ [] := fun e => hne (by
    have := r.length
    rw [e] at this
    exact List.eq_nil_of_length_eq_zero this)
  have hi : its.toArray.isEmpty = false := by
    cases its with
    | nil => exact absurd rfl hn
    | cons a b => rfl
  rcases h with ⟨rfl, q⟩ | ⟨rfl, q⟩
  · refine wpAny_binaryOp_repeat_ref (T := "tuple") (U := "int") (by decide) ⟨_, ho, rfl⟩ (fun s' => typeIs_int s' 1 t) noFill_tuple_mul F.fills_int_mul F.slot_int_rmul repeat_tuple F.slot_int_index.lookup
      (call_meets F.slot_int_rmul (typeIs_int s 1 t) F.entry_int_rmul (F.args_int_rmul_2 _ _) (int_rmul_tuple 1 t l its.toArray n dd sl)
        ⟨ho, rfl, ⟨_, ho, rfl⟩, call_meets F.slot_tuple_mul ⟨_, ho, rfl⟩ F.entry_tuple_mul (F.args_tuple_mul_2 _ _) (tuple_mul1 l its.toArray n dd sl t) ⟨ho, ?_⟩⟩)
    exact ⟨.ref l, H, I, rfl, q⟩
  · refine wpAny_binaryOp_repeat_ref (T := "tuple") (U := "int") (by decide) ⟨_, ho, rfl⟩ (fun s' => typeIs_int s' 0 t) noFill_tuple_mul F.fills_int_mul F.slot_int_rmul repeat_tuple F.slot_int_index.lookup
      (call_meets F.slot_int_rmul (typeIs_int s 0 t) F.entry_int_rmul (F.args_int_rmul_2 _ _) (int_rmul_tuple 0 t l its.toArray n dd sl)
        ⟨ho, rfl, ⟨_, ho, rfl⟩, call_meets F.slot_tuple_mul ⟨_, ho, rfl⟩ F.entry_tuple_mul (F.args_tuple_mul_2 _ _) (tuple_mul0 l its.toArray n dd sl t (by rw [hi]; rfl)) ⟨ho, ?_⟩⟩)
    exact ⟨.ref s.heap.objs.size, _, I.laid (t' := s.toks) (o := .tup []) (fun b ob q => Heap.get?_push_of_some _ q) (Nat.le_refl _) ⟨Nat.zero_le _, [], .nil, IsTup.new _ _⟩, rfl, q _ (I.hok.fresh (Nat.le_refl _))⟩
def rMulN (K : PySem.W.Frag) : R2 := fun x y H Q => rMulA K x y H Q ∨ rRepN K x y H Q
theorem kMulN {X : Cx} {K : PySem.W.Frag} (h : X.K = K) : OpR X (binaryOp .Mult) (rMulN K) := fun pins s σ H x y v u Q I rx ry z => by
  subst h
  rcases z with z | z
  · exact op_mulA pins s σ H x y v u Q I rx ry z
  · exact op_repN pins s σ H x y v u Q I rx ry z
theorem od_mulNI {K : PySem.W.Frag} {Q : PyData → Prop} {x y : PyData} (h : ∃ i j, x = .int i ∧ y = .int j ∧ CMulA i j ∧ Q (.int (i * j))) : OD (rMulN K) x y Q := fun F H u v j kx ky R r => .inl (od_mulI h F H u v j kx ky R r)
/-- (x,) * n -/
theorem od_mulNT {K : PySem.W.Frag} {Q : PyData → Prop} {x y : PyData} (h : ∃ d k, x = .tuple [d] ∧ y = .int k ∧ 0 ≤ k ∧ k ≤ 1000 ∧ Q (.tuple (List.replicate k.toNat d))) : OD (rMulN K) x y Q := fun F H u v j kx ky R r => by
  obtain ⟨d, k, rfl, rfl, h0, h1, q⟩ := h
  cases ky
  cases kx with
  | @tup a vl _ w e ha =>
    cases ha with
    | @cons z zs _ _ k1 k2 =>
      cases k2
      by_cases e1 : k = 1
      · subst e1
        exact .inr ⟨a, 1, _, rfl, rfl, SqT.of e, List.cons_ne_nil _ _, .inl ⟨rfl, r _ _ _ q (.refl j) (.tup w e (.cons k1 .nil))⟩⟩
      · by_cases e0 : k = 0
        · subst e0
          refine .inr ⟨a, 0, _, rfl, rfl, SqT.of e, List.cons_ne_nil _ _, .inr ⟨rfl, fun p hp => ?_⟩⟩
          have g : Gro F H (upd H p (.tup [])) := .new j hp
          exact r _ _ _ q g (.tup (Fr.fresh j hp) upd_same .nil)
        · refine .inl (.inr (.inr ⟨a, k, [z], rfl, rfl, SqT.of e, List.cons_ne_nil _ _, by omega, h1, by simp, fun p hp => ?_⟩))
          have ee : (List.replicate k.toNat [z]).flatten = List.replicate k.toNat z := by
            induction k.toNat with
            | zero => rfl
            | succ n ih => rw [List.replicate_succ, List.flatten_cons, ih, List.replicate_succ]; rfl
          rw [ee]
          have g : Gro F H (upd H p (.tup (List.replicate k.toNat z))) := .new j hp
          have al : ∀ n, DqA F.W H (List.replicate n z) (List.replicate n d) := fun n => by
            induction n with
            | zero => exact .nil
            | succ n ih => exact .cons k1 ih
          exact r _ _ _ q g (.tup (Fr.fresh j hp) upd_same ((al _).gro g))

end Dl
end
section
set_option Elab.async false
set_option linter.all false
set_option maxRecDepth 100000
/-! any iterator that gives out new pairs, from a walk of the library's to a turn of the hand layer's; with it enumerate and zip over lists and tuples in any mix -/
namespace Dl
open PySem L2 PySem.Spec PyProof.Rows RZ

/-- what a walk must tell at one turn -/
structure Step2 (X : Cx) (J : It) (I : Addr) (fp : List Addr) (tn : Nat → Heap → Prop) (i : Nat) (H : Hp) (h : Heap) : Prop where
  told : ∃ (gp wr : List Addr) (n : Nat) (Pt : Nat → Array Value → Prop) (St : Nat → Heap → Prop) (Mid : Nat → Addr → Heap → Prop), WalksT X.prog X.w X.A I gp wr n Pt St Mid ∧ i < n ∧ St i h ∧ (∀ c, c ∈ wr → c ∈ fp) ∧ (∀ h2, St (i + 1) h2 → tn (i + 1) h2) ∧
    ∀ vals, Pt i vals → ∃ (x y : V) (u v : Value), vals = #[u, v] ∧ RelV x u ∧ RelV y v ∧ ∀ T, H T = none → J.yld i H (.ref T) (upd H T (.tup [x, y]))
structure Stop2 (X : Cx) (I : Addr) (fp : List Addr) (i : Nat) (h : Heap) : Prop where
  told : ∃ (gp wr : List Addr) (Pt : Nat → Array Value → Prop) (St : Nat → Heap → Prop) (Mid : Nat → Addr → Heap → Prop), WalksT X.prog X.w X.A I gp wr i Pt St Mid ∧ St i h ∧ ∀ c, c ∈ wr → c ∈ fp
theorem turn2 {P : Program} {w : World} {K : PySem.W.Frag} {elts : List Expr} {kk : Nat} {tpos : Pos} {J : It} {I : Addr} {fp : List Addr} {tn : Nat → Heap → Prop} (mem : I ∈ fp)
    (cells : ∀ i h, tn i h → ∀ c, c ∈ fp → ∃ o, h.get? c = some o ∧ ∀ v, o.data ≠ .cell v)
    (stays : ∀ i h h', tn i h → (∀ c, c ∈ fp → ∀ o, h.get? c = some o → h'.get? c = some o) → tn i h')
    (steps : ∀ (X : Cx), X.prog = P → X.w = w → X.K = K → X.calm = true → ∀ (i : Nat) (pins : List (Addr × Obj)) (s : Shared) (σ : L2.St) (H : Hp), Inv X pins σ H s → tn i s.heap → J.go i H → Step2 X J I fp tn i H s.heap)
    (stops : ∀ (X : Cx), X.prog = P → X.w = w → X.K = K → X.calm = true → ∀ (i : Nat) (pins : List (Addr × Obj)) (s : Shared) (σ : L2.St) (H : Hp), Inv X pins σ H s → tn i s.heap → J.stop i H → Stop2 X I fp i s.heap)
    (again : ∀ (A : Around) (i : Nat) (s : Shared) (Q : Value → Shared → Prop) (E : Value → Shared → Prop), tn i s.heap → Q (.ref I) s → wpAny (model P w) A (pyIter (.ref I)) Q E s) :
    Turn P w K (.Tuple elts kk tpos) J fp I tn := by
  refine ⟨mem, cells, stays, ?_, ?_, again⟩
  · rintro X hP hw hK calm i pins s σ H E inv foot st go
    obtain ⟨gp, wr, n, Pt, St, Mid, W, lt, st0, sub, nxt, pair⟩ := (steps X hP hw hK calm i pins s σ H inv st go).told
    subst hP hw hK
    refine W.item i s _ E lt st0 fun T vals h1 tk hv fresh at1 mid stay1 => ⟨_, rfl, W.go elts kk tpos i T ⟨h1, s.gens, s.drawn, tk, s.os⟩ _ _ mid fun h2 st2 stay2 => ?_⟩
    obtain ⟨x, y, u, v, rfl, rx, ry, gives⟩ := pair vals hv
    obtain ⟨ob, e1, ec, en, ed⟩ := at1
    have both : ∀ c o, c ∉ fp → s.heap.get? c = some o → h2.get? c = some o := fun c o nc e => stay2 c o (fun m => nc (sub c m)) (stay1 c o (fun m => nc (sub c m)) e)
    have made : ObjOk X.prog X.w (upd H T (.tup [x, y])) h2 T (.tup [x, y]) := ⟨Nat.le_of_ble_eq_true rfl, [u, v], .cons rx (.cons ry .nil), ob, stay2 T ob (W.apart i T h1 mid) e1, ec, en, ed⟩
    refine ⟨.ref T, _, inv.turnedNew (ch := fp) both foot fresh made, rfl, gives T (inv.hok.fresh fresh), nxt h2 st2, fun c m => ?_⟩
    obtain ⟨o, eo, _⟩ := cells i s.heap st c m
    have ne : c ≠ T := fun z => Nat.lt_irrefl _ (Nat.lt_of_lt_of_le (z ▸ Heap.lt_size eo) fresh)
    rw [upd_ne ne]
    exact (foot c m).1
  · rintro X hP hw hK calm i pins s σ H E inv foot st stop
    obtain ⟨gp, wr, Pt, St, Mid, W, st0, sub⟩ := (stops X hP hw hK calm i pins s σ H inv st stop).told
    subst hP hw hK
    exact W.done s _ E st0 fun h1 tk stay => ⟨rfl, inv.turnedL (ch := fp) (fun c o nc e => stay c o (fun m => nc (sub c m)) e) foot⟩

/-! ### a list or a tuple: t tells which -/
def SqM (K : PySem.W.Frag) (t : Bool) (H : Hp) (a : Addr) (xs : List V) : Prop := if t = true then SqT K H a xs else SqL K H a xs
def IterM (t : Bool) (h : Heap) (it a : Addr) (i : Nat) : Prop := if t = true then h.IsTupleIter it a i else h.IsListIter it a i
def SeqM (t : Bool) (h : Heap) (a : Addr) (items : Array Value) : Prop := if t = true then h.IsTuple a items else h.IsList a items
def itObj (t : Bool) (a : Addr) : Obj := ⟨.type (if t = true then "tuple_iterator" else "list_iterator"), none, .fields #[.ref a, .int 0 0], #[]⟩
theorem seqM_inv {X : Cx} {pins : List (Addr × Obj)} {σ : L2.St} {H : Hp} {s : Shared} {t : Bool} {a : Addr} {xs : List V} (I : Inv X pins σ H s) (h : SqM X.K t H a xs) : ∃ its : List Value, Vals xs its ∧ SeqM t s.heap a its.toArray ∧ a < s.heap.objs.size := by
  cases t with
  | true =>
    obtain ⟨its, r, p, _⟩ := I.tuple h
    exact ⟨its, r, p, by obtain ⟨_, e, _⟩ := p; exact Heap.lt_size e⟩
  | false =>
    obtain ⟨its, r, p, _⟩ := I.list h
    exact ⟨its, r, p.isList, p.lt⟩
theorem seqM_inj {X : Cx} {pins : List (Addr × Obj)} {σ : L2.St} {H : Hp} {s : Shared} {t : Bool} {a : Addr} {xs ys : List V} (I : Inv X pins σ H s) (h : SqM X.K t H a xs) (h' : SqM X.K t H a ys) : xs = ys := by
  cases t with
  | true => exact I.tuple_inj h h'
  | false => exact I.list_inj h h'
theorem drawsM {prog : Program} {w : World} {A : Around} (calm : A.handled = none) (t : Bool) (it a : Addr) (ne : a ≠ it) (items : Array Value) :
    Draws prog w A it [it, a] items.size (fun i v => items[i]? = some v) (fun i h => IterM t h it a i ∧ SeqM t h a items) := by
  cases t with
  | true => exact Draws.tuple calm it a ne items
  | false => exact Draws.list calm it a ne items
theorem beginsM (t : Bool) (a : Addr) (items : Array Value) : Begins (.ref a) (itObj t a) fun h => SeqM t h a items := by
  cases t with
  | true => exact begins_tuple a items
  | false => exact begins_list a items
theorem iterM_at {t : Bool} {h h' : Heap} {it a : Addr} {i : Nat} (k : ∀ o, h.get? it = some o → h'.get? it = some o) (st : IterM t h it a i) : IterM t h' it a i := by
  cases t with
  | true => exact Heap.IsTupleIter.at st k
  | false => exact Heap.IsListIter.at st k
theorem iterM_obj {t : Bool} {h : Heap} {it a : Addr} {i : Nat} (st : IterM t h it a i) : ∃ o, h.get? it = some o ∧ ∀ v, o.data ≠ .cell v := by
  cases t <;> (obtain ⟨o, e, _, d⟩ := st; exact ⟨o, e, by rw [d]; exact nofun⟩)
theorem iterM_new {t : Bool} {h : Heap} {it a : Addr} (e : h.get? it = some (itObj t a)) : IterM t h it a 0 := by
  cases t <;> exact ⟨_, e, rfl, rfl⟩
theorem vals_at {xs : List V} {its : List Value} {i : Nat} {x : V} {u : Value} (r : Vals xs its) (hx : xs[i]? = some x) (hu : its.toArray[i]? = some u) : RelV x u := by
  obtain ⟨z, hz, rz⟩ := r.get hx
  rw [List.getElem?_toArray, hz] at hu
  cases hu
  exact rz
theorem dqM {W : Addr → Prop} {K : PySem.W.Frag} {H : Hp} {v : V} {x : PyData} {ds : List PyData} (hx : itemsOf x = some ds) (k : Dq W H v x) : ∃ t a xs o, v = .ref a ∧ ¬ W a ∧ H a = some o ∧ DqA W H xs ds ∧ ∀ H2 : Hp, H2 a = some o → SqM K t H2 a xs := by
  cases k with
  | @lst a xs _ w e ha => cases hx; exact ⟨false, a, xs, _, rfl, w, e, ha, fun H2 e2 => SqL.of e2⟩
  | @tup a xs _ w e ha => cases hx; exact ⟨true, a, xs, _, rfl, w, e, ha, fun H2 e2 => SqT.of e2⟩
  | non => cases hx
  | bl _ => cases hx
  | int _ => cases hx
  | str _ => cases hx

/-! ### enumerate -/
def IteM (K : PySem.W.Frag) (t : Bool) (a : Addr) : It where
  go := fun i H => ∃ xs, SqM K t H a xs ∧ i < xs.length
  yld := fun i H v H' => ∃ T x, v = .ref T ∧ H T = none ∧ H' = upd H T (.tup [.int (i : Nat), x]) ∧ ∀ xs, SqM K t H a xs → xs[i]? = some x
  stop := fun i H => ∃ xs, SqM K t H a xs ∧ i = xs.length
theorem turn_enumM {P : Program} {w : World} {K : PySem.W.Frag} {elts : List Expr} {kk : Nat} {tpos : Pos} {t : Bool} {a e it : Addr} (n1 : e ≠ it) (n2 : e ≠ a) (n3 : a ≠ it) :
    Turn P w K (.Tuple elts kk tpos) (IteM K t a) [e, it] e (fun i h => (∃ old, IsEnum h e it (0 + (i : Int)) old) ∧ IterM t h it a i) := by
  have two : ∀ {c}, c ∈ [e, it] → c = e ∨ c = it := fun m => by simpa using m
  have walk : ∀ (X : Cx), X.calm = true → ∀ (pins : List (Addr × Obj)) (s : Shared) (σ : L2.St) (H : Hp) (its : List Value), Inv X pins σ H s → WalksT X.prog X.w X.A e (e :: [it, a]) [e, it] its.toArray.size _ _ _ := fun X calm pins s σ H its I =>
    WalksT.enumFrom 0 (drawsM (A := X.A.in1) (I.ok.hd calm) t it a n3 its.toArray) e n1 (by simp [n1, n2]) (by simp)
  refine turn2 (by simp) (fun i h ⟨⟨old, he⟩, st⟩ c m => ?_) (fun i h h' ⟨⟨old, he⟩, st⟩ k => ⟨⟨old, k e (by simp) _ he⟩, iterM_at (fun o q => k it (by simp) o q) st⟩) ?_ ?_ (fun A i s Q E ⟨⟨_, he⟩, _⟩ q => wpAny_pyIter_enum he q)
  · rcases two m with rfl | rfl
    · exact ⟨_, he, nofun⟩
    · exact iterM_obj st
  · rintro X hP hw hK calm i pins s σ H I ⟨en, st⟩ ⟨xs, hq, hi⟩
    subst hK
    obtain ⟨its, r, p, _⟩ := seqM_inv I hq
    refine ⟨_, _, _, _, _, _, walk X calm pins s σ H its I, by rw [List.size_toArray, ← r.length]; exact hi, ⟨en, st, p⟩, fun c m => m, fun h2 q => ⟨q.1, q.2.1⟩, fun vals hv => ?_⟩
    obtain ⟨tk, u, hu, rfl⟩ := hv
    have hx : xs[i]? = some xs[i] := List.getElem?_eq_getElem hi
    refine ⟨.int (i : Nat), xs[i], _, u, rfl, ⟨tk, by rw [Int.zero_add]⟩, vals_at r hx hu, fun T hT => ⟨T, xs[i], rfl, hT, rfl, fun ys hy => by rw [seqM_inj I hy hq]; exact hx⟩⟩
  · rintro X hP hw hK calm i pins s σ H I ⟨en, st⟩ ⟨xs, hq, hi⟩
    subst hK
    obtain ⟨its, r, p, _⟩ := seqM_inv I hq
    have W := walk X calm pins s σ H its I
    rw [show its.toArray.size = i by rw [List.size_toArray, ← r.length]; exact hi.symm] at W
    exact ⟨_, _, _, _, _, W, ⟨en, st, p⟩, fun c m => m⟩
set_option maxHeartbeats 2000000 in
theorem new_enum {v : Value} {o : Obj} {H : Heap → Prop} (B : Begins v o H) : Meets (Builtin.«enumerate.__new__» ⟨[.type "enumerate", v], []⟩) (fun _ R s => H s.heap ∧
      R (.ok (.ret (.ref (s.heap.push o).objs.size))) ⟨(s.heap.push o).push ⟨.type "enumerate", none, .fields #[.none, .bool false, .ref s.heap.objs.size, rawInt 0, .none, .none], #[]⟩, s.gens, s.drawn, s.toks, s.os⟩) := by
  refine .of_wp fun prog w A R s h => ?_
  cases s with
  | mk hp g d tk os =>
    have it : ∀ {A' : Around} {E Q : Value → Shared → Prop}, Q (.ref hp.objs.size) ⟨hp.push o, g, d, tk, os⟩ → wpAny (model prog w) A' (pyIter v) Q E ⟨hp, g, d, tk, os⟩ := B.iter prog w _ _ ⟨hp, g, d, tk, os⟩ _ h.1
    have sub := sub_enumerate
    wp_walk using it
    refine wpAny_stack_any fun _ => wpAny_pure ?_
    split
    · rename_i c _ _ _ _ _
      cases hc : c == Value.type "enumerate" <;> (wp_walk using it; exact ⟨_, rfl, h.2⟩)
    · wp_walk using it
      exact ⟨_, rfl, h.2⟩
theorem call_enumM {prog : Program} {w : World} {A : Around} {E : Value → Shared → Prop} {s : Shared} {v : Value} {o : Obj} {H : Heap → Prop} {Q : Value → Shared → Prop} (B : Begins v o H) (h1 : H s.heap)
    (q : ∀ h', IsEnum h' (s.heap.objs.size + 1) s.heap.objs.size 0 .none → h'.get? s.heap.objs.size = some o → (∀ b u, s.heap.get? b = some u → h'.get? b = some u) → Q (.ref (s.heap.objs.size + 1)) ⟨h', s.gens, s.drawn, s.toks, s.os⟩) :
    wpAny (model prog w) A (call (.type "enumerate") [v]) Q E s := by
  have size : (s.heap.push o).objs.size = s.heap.objs.size + 1 := Heap.size_push ..
  let en : Obj := ⟨.type "enumerate", none, .fields #[.none, .bool false, .ref s.heap.objs.size, rawInt 0, .none, .none], #[]⟩
  have top : ((s.heap.push o).push en).get? (s.heap.objs.size + 1) = some en := by rw [← size]; exact Heap.get?_push_size _ rfl
  refine callType_new F.called_enumerate (by decide) (F.typeCall_enumerate_1 _) (F.newCall_enumerate_1 _) (fun _ => F.args_object_init_2 _ _) F.entry_enumerate_new (new_enum B) ⟨h1, ?_⟩
  show (Shared.TypeIs _ (.ref (s.heap.push o).objs.size) _) ∧ Q (.ref (s.heap.push o).objs.size) _
  rw [size]
  exact ⟨⟨en, top, rfl⟩, q _ top (Heap.get?_push_of_some _ (Heap.get?_push_size _ B.free)) fun b u e => Heap.get?_push_of_some _ (Heap.get?_push_of_some _ e)⟩
def iEnumT (K : PySem.W.Frag) (ta : TA) : TI := fun σ H R => ta σ H fun vs H1 => ∃ t a xs, vs = [.ref a] ∧ SqM K t H1 a xs ∧ R (IteM K t a) H1
theorem kEnumT {X : Cx} {K : PySem.W.Frag} {e : Expr} {ta : TA} {p pos tpos : Pos} {elts : List Expr} {kk : Nat} (hK : X.K = K) (hg : Gl X "enumerate") (hm : X.mg "enumerate" = none) (ha : PA X [e] ta) (hs : starEach [e] X.env = [(false, eval e X.env)] := by rfl) :
    PI X (.Tuple elts kk tpos) (.Call (.Name "enumerate" p) [e] [] pos) (iEnumT K ta) := by
  subst hK
  constructor
  intro pins s σ H R inv h
  refine Call_ (ld_blt inv hg hm boot_enumerate (PyProof.Rows.callWith_type1 (thn (ha.run pos pins s σ H _ inv h) ?_) hs rfl))
  rintro us z ⟨vs, H1, inv1, rel, t, a, xs, rfl, hq, q⟩
  have eu : us = [.ref a] := Vals.ref1 rel
  subst eu
  obtain ⟨its, rv, p1, lt⟩ := seqM_inv inv1 hq
  have lt2 : a < z.heap.objs.size + 1 := Nat.lt_succ_of_lt lt
  refine call_enumM (beginsM t a its.toArray) p1 fun h' en g1 stay => wpAny_pyIter_enum en ⟨_, [z.heap.objs.size + 1, z.heap.objs.size], _, _, H1, rfl, inv1.kept (t' := z.toks) stay, turn_enumM (Nat.succ_ne_self _) (Nat.ne_of_gt lt2) (Nat.ne_of_lt lt), ⟨⟨_, en⟩, iterM_new g1⟩, fun c m => ?_, q⟩
  have above : z.heap.objs.size ≤ c := by
    rcases List.mem_cons.mp m with r | m
    · exact r ▸ Nat.le_succ _
    · exact Nat.le_of_eq (List.mem_singleton.mp m).symm
  exact inv1.fpOk above (inv1.hok.fresh above)
theorem it_enumT {B : Fr} {env : List Ent} {ta : TA} {Q : List PyData → Prop} {K : PySem.W.Frag} (h : EA B env ta (AllD fun es => ∃ x ds, es = [x] ∧ itemsOf x = some ds ∧ Q (zipD (rangeD 0 ds.length) ds))) : IT B env (iEnumT K ta) Q := fun O σ H j s R r =>
  h O σ H j s _ fun es vs H2 ⟨ds, e, x, ys, e2, hx, q⟩ g k => by
    subst e
    subst e2
    have kk := slots_dats k
    cases kk with
    | cons k1 k2 =>
      cases k2
      obtain ⟨t, a, us, o, rfl, w, ea, ha, sq⟩ := dqM (K := K) hx k1
      refine ⟨t, a, us, rfl, sq _ ea, r _ _ H2 q g ?_⟩
      have hl : (zipD (rangeD 0 ys.length) ys).length = us.length := by simp [zipD, rangeD, ha.len]
      unfold Its
      rw [hl]
      refine ⟨fun i H hi gd => ⟨us, sq _ (gd a _ w ea), hi⟩, fun H gd => ⟨us, sq _ (gd a _ w ea), rfl⟩, fun i H x H' hi gd y => ?_⟩
      obtain ⟨T, z, e1, e2, e3, e4⟩ := y
      obtain ⟨d, e6, q6⟩ := ha.getV (e4 us (sq _ (gd a _ w ea)))
      refine .inr ⟨T, _, z, .int (0 + (i : Nat)), d, e1, e2, e3, zipD_get ?_ e6, ?_, q6⟩
      · have : i < ys.length := by rw [← ha.len]; exact hi
        simp [rangeD, this]
      · rw [Int.zero_add]
        exact .int _

/-! ### zip -/
def ItzM (K : PySem.W.Frag) (t1 t2 : Bool) (a b : Addr) : It where
  go := fun i H => ∃ xs ys, SqM K t1 H a xs ∧ SqM K t2 H b ys ∧ i < xs.length ∧ i < ys.length
  yld := fun i H v H' => ∃ T x y, v = .ref T ∧ H T = none ∧ H' = upd H T (.tup [x, y]) ∧ (∀ xs, SqM K t1 H a xs → xs[i]? = some x) ∧ ∀ ys, SqM K t2 H b ys → ys[i]? = some y
  stop := fun i H => ∃ xs ys, SqM K t1 H a xs ∧ SqM K t2 H b ys ∧ i = min xs.length ys.length
theorem turn_zipM {P : Program} {w : World} {K : PySem.W.Frag} {elts : List Expr} {kk : Nat} {tpos : Pos} {t1 t2 : Bool} {a b z TI TO i1 i2 : Addr} (S : ZipSep2 z TI TO i1 i2 [i1, a] [i2, b]) (n1 : a ≠ i1) (n2 : b ≠ i2) :
    Turn P w K (.Tuple elts kk tpos) (ItzM K t1 t2 a b) [z, TI, TO, i1, i2] z (fun i h => IsZip h z TI TO .none ∧ IsTupOf2 h TI (.ref i1) (.ref i2) ∧ (∃ x y, IsTupOf2 h TO x y) ∧ IterM t1 h i1 a i ∧ IterM t2 h i2 b i) := by
  have five : ∀ {c}, c ∈ [z, TI, TO, i1, i2] → c = z ∨ c = TI ∨ c = TO ∨ c = i1 ∨ c = i2 := fun m => by simpa using m
  have four : ∀ c, c ∈ [z, TO, i1, i2] → c ∈ [z, TI, TO, i1, i2] := fun c m => by
    rcases (show c = z ∨ c = TO ∨ c = i1 ∨ c = i2 by simpa using m) with q | q | q | q <;> (rw [q]; simp)
  have walk : ∀ (X : Cx), X.calm = true → ∀ (pins : List (Addr × Obj)) (s : Shared) (σ : L2.St) (H : Hp) (us vs : List Value), Inv X pins σ H s → WalksT X.prog X.w X.A z (z :: TI :: TO :: ([i1, a] ++ [i2, b])) [z, TO, i1, i2] (min us.toArray.size vs.toArray.size) _ _ _ := fun X calm pins s σ H us vs I =>
    WalksT.zipD2 S (drawsM (A := X.A.in1) (I.ok.hd calm) t1 i1 a n1 us.toArray) (drawsM (A := X.A.in1) (I.ok.hd calm) t2 i2 b n2 vs.toArray)
  refine turn2 (by simp) (fun i h ⟨iz, ti, ⟨x, y, to⟩, s1, s2⟩ c m => ?_) (fun i h h' ⟨iz, ti, ⟨x, y, to⟩, s1, s2⟩ k => ⟨k z (by simp) _ iz, k TI (by simp) _ ti, ⟨x, y, k TO (by simp) _ to⟩, iterM_at (fun o q => k i1 (by simp) o q) s1, iterM_at (fun o q => k i2 (by simp) o q) s2⟩) ?_ ?_ (fun A i s Q E st q => wpAny_pyIter_zip st.1 q)
  · rcases five m with rfl | rfl | rfl | rfl | rfl
    · exact ⟨_, iz, nofun⟩
    · exact ⟨_, ti, nofun⟩
    · exact ⟨_, to, nofun⟩
    · exact iterM_obj s1
    · exact iterM_obj s2
  · rintro X hP hw hK calm i pins s σ H I ⟨iz, ti, to, s1, s2⟩ ⟨xs, ys, qx, qy, l1, l2⟩
    subst hK
    obtain ⟨us, ru, pu, _⟩ := seqM_inv I qx
    obtain ⟨vs, rv, pv, _⟩ := seqM_inv I qy
    have k1 := ru.length
    have k2 := rv.length
    refine ⟨_, _, _, _, _, _, walk X calm pins s σ H us vs I, by rw [List.size_toArray, List.size_toArray]; omega, ⟨iz, ti, to, ⟨s1, pu⟩, ⟨s2, pv⟩⟩, four, fun h2 q => ⟨q.1, q.2.1, q.2.2.1, q.2.2.2.1.1, q.2.2.2.2.1⟩, fun vals hv => ?_⟩
    obtain ⟨u, v, hu, hv, rfl⟩ := hv
    have hx : xs[i]? = some xs[i] := List.getElem?_eq_getElem l1
    have hy : ys[i]? = some ys[i] := List.getElem?_eq_getElem l2
    exact ⟨xs[i], ys[i], u, v, rfl, vals_at ru hx hu, vals_at rv hy hv, fun T hT => ⟨T, _, _, rfl, hT, rfl, fun l hl => by rw [seqM_inj I hl qx]; exact hx, fun l hl => by rw [seqM_inj I hl qy]; exact hy⟩⟩
  · rintro X hP hw hK calm i pins s σ H I ⟨iz, ti, to, s1, s2⟩ ⟨xs, ys, qx, qy, l⟩
    subst hK
    obtain ⟨us, ru, pu, _⟩ := seqM_inv I qx
    obtain ⟨vs, rv, pv, _⟩ := seqM_inv I qy
    have W := walk X calm pins s σ H us vs I
    rw [show min us.toArray.size vs.toArray.size = i by rw [List.size_toArray, List.size_toArray, ← ru.length, ← rv.length]; exact l.symm] at W
    exact ⟨_, _, _, _, _, W, ⟨iz, ti, to, ⟨s1, pu⟩, ⟨s2, pv⟩⟩, four⟩
def iZipM (K : PySem.W.Frag) (ta : TA) : TI := fun σ H R => ta σ H fun vs H1 => ∃ t1 t2 a b xs ys, vs = [.ref a, .ref b] ∧ SqM K t1 H1 a xs ∧ SqM K t2 H1 b ys ∧ R (ItzM K t1 t2 a b) H1
theorem kZipM {X : Cx} {K : PySem.W.Frag} {e e2 : Expr} {ta : TA} {p pos tpos : Pos} {elts : List Expr} {kk : Nat} (hK : X.K = K) (hg : Gl X "zip") (hm : X.mg "zip" = none) (ha : PA X [e, e2] ta)
    (hs : starEach [e, e2] X.env = (false, eval e X.env) :: starEach [e2] X.env := by rfl) (hpl : (backTo pos (starEach [e2] X.env)).any (·.1) = false := by rfl) : PI X (.Tuple elts kk tpos) (.Call (.Name "zip" p) [e, e2] [] pos) (iZipM K ta) := by
  subst hK
  constructor
  intro pins s σ H R inv h
  refine Call_ (ld_blt inv hg hm PyProof.Rows.boot_zip (PyProof.Rows.callWith_type1 (thn (ha.run pos pins s σ H _ inv h) ?_) hs hpl))
  rintro us z ⟨vs, H1, inv1, rel, t1, t2, a, b, xs, ys, rfl, qx, qy, q⟩
  cases rel with
  | cons ra rel =>
    cases rel with
    | cons rb rel =>
      cases rel
      cases ra
      cases rb
      obtain ⟨its, _, p1, l1⟩ := seqM_inv inv1 qx
      obtain ⟨its2, _, p2, l2⟩ := seqM_inv inv1 qy
      have sep := zip_sep2 (N := z.heap.objs.size) (fp1 := [a]) (fp2 := [b]) (fun c m => (List.mem_singleton.mp m) ▸ l1) (fun c m => (List.mem_singleton.mp m) ▸ l2)
      refine zip_begins2 (beginsM t1 a its.toArray) (beginsM t2 b its2.toArray) p1 p2 fun h' iz ti to g1 g2 _ stay => wpAny_pyIter_zip iz ⟨_, _, _, _, H1, rfl, inv1.kept (t' := z.toks) stay, turn_zipM sep (Nat.ne_of_lt l1) (Nat.ne_of_lt (Nat.lt_succ_of_lt l2)), ⟨iz, ti, ⟨_, _, to⟩, iterM_new g1, iterM_new g2⟩, fun c m => ?_, q⟩
      have above : z.heap.objs.size ≤ c := by
        have m2 : c = z.heap.objs.size + 4 ∨ c = z.heap.objs.size + 2 ∨ c = z.heap.objs.size + 3 ∨ c = z.heap.objs.size ∨ c = z.heap.objs.size + 1 := by simpa using m
        rcases m2 with r | r | r | r | r <;> rw [r] <;> first | exact Nat.le_refl _ | exact Nat.le_add_right _ _
      exact inv1.fpOk above (inv1.hok.fresh above)
theorem it_zipM {B : Fr} {env : List Ent} {ta : TA} {Q : List PyData → Prop} {K : PySem.W.Frag} (h : EA B env ta (AllD fun es => ∃ x y xs ys, es = [x, y] ∧ itemsOf x = some xs ∧ itemsOf y = some ys ∧ Q (zipD xs ys))) : IT B env (iZipM K ta) Q := fun O σ H j s R r =>
  h O σ H j s _ fun es vs H2 ⟨ds, e, x, y, xs, ys, e2, hx, hy, q⟩ g k => by
    subst e
    subst e2
    have kk := slots_dats k
    cases kk with
    | cons k1 k2 =>
      cases k2 with
      | cons k2 k3 =>
        cases k3
        obtain ⟨t1, a, us, o1, rfl, w1, e1, ha, s1⟩ := dqM (K := K) hx k1
        obtain ⟨t2, b, vs, o2, rfl, w2, e2, hb, s2⟩ := dqM (K := K) hy k2
        refine ⟨t1, t2, a, b, us, vs, rfl, s1 _ e1, s2 _ e2, r _ _ H2 q g ?_⟩
        have hl : (zipD xs ys).length = min us.length vs.length := by simp [zipD, ha.len, hb.len]
        unfold Its
        rw [hl]
        refine ⟨fun i H hi gd => ⟨us, vs, s1 _ (gd a _ w1 e1), s2 _ (gd b _ w2 e2), by omega, by omega⟩, fun H gd => ⟨us, vs, s1 _ (gd a _ w1 e1), s2 _ (gd b _ w2 e2), rfl⟩, fun i H x H' hi gd y => ?_⟩
        obtain ⟨T, x1, x2, e3, e4, e5, e6, e7⟩ := y
        obtain ⟨d, f6, q6⟩ := ha.getV (e6 us (s1 _ (gd a _ w1 e1)))
        obtain ⟨d2, f7, q7⟩ := hb.getV (e7 vs (s2 _ (gd b _ w2 e2)))
        exact .inr ⟨T, x1, x2, d, d2, e3, e4, e5, zipD_get f6 f7, q6, q7⟩
end Dl
end
section
set_option Elab.async false
set_option linter.all false
set_option maxRecDepth 100000
/-! what comes out new: by locking all lists that were there -/
namespace Dl
open PySem L2 PySem.Spec PyProof.Rows RZ
mutual
def LF : PyData → Bool
  | .list _ => false
  | .dict _ => false
  | .tuple ds => LFA ds
  | .none => true
  | .bool _ => true
  | .int _ => true
  | .str _ => true
def LFA : List PyData → Bool
  | [] => true
  | d :: ds => LF d && LFA ds
end
theorem LFA_cons {d : PyData} {ds : List PyData} : LFA (d :: ds) = (LF d && LFA ds) := by rw [LFA]
theorem LF_tuple {ds : List PyData} : LF (.tuple ds) = LFA ds := by rw [LF]
theorem LF_int {i : Int} : LF (.int i) = true := by rw [LF]
theorem LFA_nil : LFA [] = true := by rw [LFA]
theorem LFA_all : ∀ {ds : List PyData}, (∀ d, d ∈ ds → LF d = true) → LFA ds = true
  | [], _ => LFA_nil
  | d :: ds, h => by rw [LFA_cons, h d List.mem_cons_self, LFA_all fun x hx => h x (List.mem_cons_of_mem _ hx)]; rfl
section
variable {W W' : Addr → Prop} {H H' : Hp}
mutual
theorem Dq.toLF (k : ∀ a o, ¬ W a → H a = some o → (∀ xs, o ≠ .lst xs) → ¬ W' a ∧ H' a = some o) : ∀ (d : PyData) (v : V), LF d = true → Dq W H v d → Dq W' H' v d
  | .none, _, _, h => by cases h; exact .non
  | .bool b, _, _, h => by cases h; exact .bl b
  | .int i, _, _, h => by cases h; exact .int i
  | .str x, _, _, h => by cases h; exact .str x
  | .list ds, _, l, h => by rw [LF] at l; cases l
  | .tuple ds, _, l, h => by
    rw [LF] at l
    cases h with
    | tup w e r => exact .tup (k _ _ w e (fun xs z => nomatch z)).1 (k _ _ w e (fun xs z => nomatch z)).2 (DqA.toLF k ds _ l r)
  | .dict _, _, _, h => by cases h
theorem DqA.toLF (k : ∀ a o, ¬ W a → H a = some o → (∀ xs, o ≠ .lst xs) → ¬ W' a ∧ H' a = some o) : ∀ (ds : List PyData) (vs : List V), LFA ds = true → DqA W H vs ds → DqA W' H' vs ds
  | [], _, _, h => by cases h; exact .nil
  | d :: ds, _, l, h => by
    rw [LFA] at l
    have l2 := Bool.and_eq_true_iff.mp l
    cases h with
    | cons h1 h2 => exact .cons (Dq.toLF k d _ l2.1 h1) (DqA.toLF k ds _ l2.2 h2)
end
end
def LFE : Ent → Bool
  | .dat d => LF d
  | .own _ ds => LFA ds
  | _ => true
def LFEs : List Ent → Bool
  | [] => true
  | e :: r => LFE e && LFEs r
open Classical in
noncomputable def lockL (B : Fr) (O : Lk) (H : Hp) : Lk := fun a => match O a with
  | some o => some o
  | none => if B.W a then none else match H a with
    | some (.lst xs) => some (.lst xs)
    | _ => none
section
variable {B : Fr} {O : Lk} {H : Hp}
theorem lockL_old {a : Addr} {o : HO} (h : O a = some o) : lockL B O H a = some o := by
  unfold lockL
  rw [h]
open Classical in
theorem lockL_lst {a : Addr} {xs : List V} (h : O a = none) (w : ¬ B.W a) (e : H a = some (.lst xs)) : lockL B O H a = some (.lst xs) := by
  unfold lockL
  rw [h]
  show (if B.W a then none else match H a with
    | some (.lst xs) => some (HO.lst xs)
    | _ => none) = _
  rw [if_neg w, e]
open Classical in
theorem lockL_inv {a : Addr} {o : HO} (j : (B.lock O).J H) (h : lockL B O H a = some o) : ¬ B.W a ∧ H a = some o ∧ (O a = some o ∨ ∃ xs, o = .lst xs) := by
  unfold lockL at h
  cases q : O a with
  | some o' =>
    rw [q] at h
    cases h
    exact ⟨(j.2 a _ q).1, (j.2 a _ q).2, .inl rfl⟩
  | none =>
    rw [q] at h
    replace h : (if B.W a then none else match H a with
      | some (.lst xs) => some (HO.lst xs)
      | _ => none) = some o := h
    by_cases w : B.W a
    · rw [if_pos w] at h; cases h
    · rw [if_neg w] at h
      cases e : H a with
      | none => rw [e] at h; cases h
      | some u =>
        rw [e] at h
        cases u <;> first
          | (cases h; exact ⟨w, rfl, .inr ⟨_, rfl⟩⟩)
          | (cases h; done)
theorem lockL_J (j : (B.lock O).J H) : (B.lock (lockL B O H)).J H := ⟨j.1, fun a o h => ⟨(lockL_inv j h).1, (lockL_inv j h).2.1⟩⟩
theorem lockL_W (j : (B.lock O).J H) {a : Addr} {o : HO} (w : ¬ (B.lock O).W a) (e : H a = some o) (n : ∀ xs, o ≠ .lst xs) : ¬ (B.lock (lockL B O H)).W a := fun z => by
  rcases z with z | z
  · exact w (.inl z)
  · cases q : lockL B O H a with
    | none => exact z q
    | some u =>
      obtain ⟨_, e2, h⟩ := lockL_inv j q
      rcases h with h | ⟨xs, h⟩
      · exact w (.inr (by rw [h]; exact nofun))
      · rw [e] at e2
        cases e2
        exact n xs h
theorem slots_lockL (j : (B.lock O).J H) : ∀ {σ : L2.St} {env : List Ent}, LFEs env = true → Slots (B.lock O).W O H σ env → Slots (B.lock (lockL B O H)).W (lockL B O H) H σ env
  | [], [], _, _ => trivial
  | s :: σ, e :: env, l, h => by
    have l2 := Bool.and_eq_true_iff.mp (show (LFE e && LFEs env) = true from l)
    refine ⟨?_, slots_lockL j l2.2 h.2⟩
    have h1 := h.1
    cases e with
    | non => trivial
    | dat d =>
      obtain ⟨v, e1, q⟩ := h1
      exact ⟨v, e1, q.toLF (fun a o w e n => ⟨lockL_W j w e n, e⟩) d v l2.1⟩
    | raw v => exact h1
    | own a ds =>
      obtain ⟨e1, vs, e2, q⟩ := h1
      exact ⟨e1, vs, lockL_old e2, q.toLF (fun a o w e n => ⟨lockL_W j w e n, e⟩) ds vs l2.1⟩
  | [], _ :: _, _, h => h.elim
  | _ :: _, [], _, h => h.elim
end
theorem Dq.toLF' {W W' : Addr → Prop} {H H' : Hp} {d : PyData} {v : V} (q : Dq W H v d) (l : LF d = true) (k : ∀ a o, ¬ W a → H a = some o → (∀ xs, o ≠ .lst xs) → ¬ W' a ∧ H' a = some o) : Dq W' H' v d := q.toLF k d v l
theorem slots_blank {W : Addr → Prop} {O : Lk} {H : Hp} : ∀ {σ : L2.St} {env : List Ent} (i : Nat), Slots W O H σ env → Slots W O H σ (env.set i .non)
  | [], [], _, _ => trivial
  | s :: σ, e :: env, 0, h => ⟨trivial, h.2⟩
  | s :: σ, e :: env, i + 1, h => ⟨h.1, slots_blank i h.2⟩
  | [], _ :: _, _, h => h.elim
  | _ :: _, [], _, h => h.elim
theorem slots_blanks {W : Addr → Prop} {O : Lk} {H : Hp} {σ : L2.St} {env : List Ent} (h : Slots W O H σ env) : ∀ vs : List Nat, Slots W O H σ (wipeE env vs)
  | [] => h
  | v :: vs => slots_blank v (slots_blanks h vs)
/-- x = e, e a list that is new: one's own. vs: names that e does not read -/
theorem sw_fresh {B : Fr} {env : List Ent} {P : Post} {i : Nat} {te : TE} (vs : List Nat) (hl : LFEs (wipeE env vs) = true)
    (h : EW B (wipeE env vs) te fun d => ∃ ds, d = .list ds ∧ LFA ds = true ∧ ∀ a, P.N (env.set i (.own a ds))) : SW B env (tAsg te (gName i)) P := fun Z H0 U O σ H D s e => by
  refine h (lockL B O H) σ H (lockL_J s.j) (slots_lockL s.j hl (slots_blanks s.sl vs)) _ fun d v H2 ⟨ds, ed, lf, q⟩ g k => ?_
  subst ed
  cases k with
  | @lst a xs _ w e1 ha =>
    have nB : ¬ B.W a := fun z => w (.inl z)
    have nO : O a = none := by
      cases q : O a with
      | none => rfl
      | some o => exact absurd (Or.inr (by rw [lockL_old q]; exact nofun)) w
    have hna : H a = none := by
      cases q : H a with
      | none => rfl
      | some o =>
        have e2 := g.1 a o w q
        rw [e1] at e2
        cases e2
        exact absurd (Or.inr (by rw [lockL_lst nO nB q]; exact nofun)) w
    have g' : Gro (B.lock O) H H2 := by
      refine ⟨fun b o wb eb => ?_, g.2.1, fun b o q => ?_⟩
      · by_cases z : (B.lock (lockL B O H)).W b
        · rcases z with z | z
          · exact absurd (.inl z) wb
          · cases q : lockL B O H b with
            | none => exact absurd q z
            | some u =>
              have e3 := (lockL_inv s.j q).2.1
              rw [eb] at e3
              cases e3
              exact (g.2.2 b _ q).2
        · exact g.1 b o z eb
      · exact g.2.2 b o (lockL_old q)
    have s2 := s.gro g'
    let O2 : Lk := fun b => if b = a then some (.lst xs) else O b
    have o2 : ∀ b, b ≠ a → O2 b = O b := fun b hb => if_neg hb
    have o2a : O2 a = some (.lst xs) := if_pos rfl
    have npo : a ∉ owned env := fun m => (s.sl.own_in m) nO
    have jj : (B.lock O2).J H2 := ⟨s2.j.1, fun b o q => by
      by_cases hb : b = a
      · subst hb
        rw [o2a] at q
        cases q
        exact ⟨nB, e1⟩
      · rw [o2 b hb] at q
        exact s2.j.2 b o q⟩
    have wk : ∀ b, b ≠ a → ¬ (B.lock O).W b → ¬ (B.lock O2).W b := fun b hb w w2 => w (w2.elim .inl fun x => .inr (by rw [← o2 b hb]; exact x))
    have k3 : DqA (B.lock O2).W H2 xs ds := ha.toLF (fun b o wb eb n => by
      have hb : b ≠ a := fun z => by subst z; rw [e1] at eb; cases eb; exact n _ rfl
      refine ⟨wk b hb fun z => wb ?_, eb⟩
      rcases z with z | z
      · exact .inl z
      · right
        cases q : O b with
        | none => exact absurd q z
        | some o' => rw [lockL_old q]; exact nofun) ds xs lf
    refine e.nx _ O2 _ _ (q a) ⟨jj, ?_, owned_set_own_nd i (.inl npo) s.nd, fun b o z => ?_, s2.keep, fun b z => ?_⟩
    · refine Slots.set i ?_ ⟨rfl, xs, o2a, k3⟩
      exact s.sl.to (fun b o w q => ⟨wk b (fun z => by subst z; rw [hna] at q; cases q) w, g'.1 b o w q⟩) fun b hb => o2 b (fun z => npo (z ▸ hb))
    · have nb : b ≠ a := fun z2 => by
        subst z2
        rw [(s.z b o z).1] at nO
        cases nO
      refine ⟨(o2 b nb).trans (s.z b o z).1, fun m => ?_⟩
      rcases owned_set_own i b m with r | r
      · exact nb r
      · exact (s.z b o z).2 r
    · by_cases hb : b = a
      · subst hb
        cases q1 : H0 b with
        | none => exact .inr (.inr rfl)
        | some o =>
          by_cases hu : U b
          · exact .inr (.inl hu)
          · have zb : Z b = none := by
              cases q2 : Z b with
              | none => rfl
              | some o' => rw [(s.z b o' q2).1] at nO; cases nO
            have q3 := s.keep b o nB zb hu q1
            rw [hna] at q3
            cases q3
      · exact s.dom b (by rw [← o2 b hb]; exact z)
/-- repr(x), x a list of one's own -/
theorem ew_reprOwn {B : Fr} {env : List Ent} {K : PySem.W.Frag} {Q : PyData → Prop} {i : Nat} {a : Addr} {ds : List PyData} (hi : env[i]? = some (.own a ds)) (hs : Shw (.list ds)) (hd : (PyData.list ds).depth ≤ 50) (hz : (PyData.list ds).shown.length ≤ sizeLine) (q : Q (.str (PyData.list ds).shown)) :
    EW B env (tCB (rReprB K) (tCons (tVar i) tNil)) Q := fun O σ H j s R r => by
  obtain ⟨c, e1, e2, vs, e3, k⟩ := s.get hi
  subst e2
  refine ⟨_, e1, _, _, rfl, .lst (SqL.of (j.2 a _ e3).2) (k.dp K), ⟨ds, .inl rfl⟩, hs, hd, hz, r _ _ H q (.refl j) (.str _)⟩
end Dl
end
section
set_option Elab.async false
set_option linter.all false
set_option maxRecDepth 100000
/-! comprehensions by what comes out -/
namespace Dl
open PySem L2 PySem.Spec PyProof.Rows RZ
section
variable {B : Fr} {vs : List Nat} {env : List Ent} {K : PySem.W.Frag}
/-- each item by its place: us -/
theorem ew_lcEq {wi : TI} {g : TG} {te : TE} {P : PyData → Prop} (us : List PyData) (h : IT B env wi fun ds => ds.length ≤ 100000 ∧ ds.length = us.length ∧
    (∀ (i : Nat) d u, ds[i]? = some d → us[i]? = some u → GC B vs (wipeE env vs) g d fun e2 => EW B e2 te fun y => y = u) ∧ P (.list us)) : EW B env (tLc wi g tYes te vs) P := by
  refine ew_lc fun O σ H j s R r => h O σ H j s R fun ds J H2 ⟨hl, hL, hs, hp⟩ gr w => r ds J H2 ⟨hl, fun i acc => acc = us.take i, rfl, fun i d acc e inv => ?_, fun acc inv => ?_⟩ gr w
  · intro O σ H v j s k R r
    have hi : i < us.length := by rw [← hL]; exact (List.getElem?_eq_some_iff.mp e).1
    have eu : us[i]? = some us[i] := List.getElem?_eq_getElem hi
    refine hs i d us[i] e eu O σ H v j s k R fun e2 σ2 q s2 w2 => r e2 σ2 (tw_yes ?_) s2 w2
    rw [if_pos rfl]
    refine q.mono fun y hy => ?_
    subst inv
    rw [hy, List.take_add_one, eu]
    rfl
  · subst inv
    rw [hL, List.take_length]
    exact hp
/-- .. those that a test lets by -/
theorem ew_lcF {wi : TI} {g : TG} {tt : TT} {te : TE} {P : PyData → Prop} (F : PyData → Option PyData) (h : IT B env wi fun ds => ds.length ≤ 100000 ∧
    (∀ (i : Nat) d, ds[i]? = some d → GC B vs (wipeE env vs) g d fun e2 => TW B e2 tt fun b => b = (F d).isSome ∧ ∀ u, F d = some u → EW B e2 te fun y => y = u) ∧ P (.list (ds.filterMap F))) : EW B env (tLc wi g tt te vs) P := by
  refine ew_lc fun O σ H j s R r => h O σ H j s R fun ds J H2 ⟨hl, hs, hp⟩ gr w => r ds J H2 ⟨hl, fun i acc => acc = (ds.take i).filterMap F, rfl, fun i d acc e inv => ?_, fun acc inv => ?_⟩ gr w
  · intro O σ H v j s k R r
    refine hs i d e O σ H v j s k R fun e2 σ2 q s2 w2 => r e2 σ2 (q.mono fun b hb => ?_) s2 w2
    obtain ⟨hb, hu⟩ := hb
    have et : ds.take (i + 1) = ds.take i ++ [d] := by rw [List.take_add_one, e]; rfl
    subst inv
    cases q2 : F d with
    | none =>
      rw [q2] at hb
      subst hb
      rw [if_neg (show ¬ ((none : Option PyData).isSome = true) from Bool.false_ne_true)]
      show (ds.take i).filterMap F = (ds.take (i + 1)).filterMap F
      rw [et, List.filterMap_append]
      simp [q2]
    | some u =>
      rw [q2] at hb
      subst hb
      rw [if_pos (show (some u).isSome = true from rfl)]
      refine (hu u q2).mono fun y hy => ?_
      show (ds.take i).filterMap F ++ [y] = (ds.take (i + 1)).filterMap F
      rw [hy, et, List.filterMap_append]
      simp [q2]
  · subst inv
    rw [List.take_length]
    exact hp
/-- .. by their places -/
theorem ew_lcFi {wi : TI} {g : TG} {tt : TT} {te : TE} {P : PyData → Prop} (F : Nat → Option PyData) (h : IT B env wi fun ds => ds.length ≤ 100000 ∧
    (∀ (i : Nat) d, ds[i]? = some d → GC B vs (wipeE env vs) g d fun e2 => TW B e2 tt fun b => b = (F i).isSome ∧ ∀ u, F i = some u → EW B e2 te fun y => y = u) ∧ P (.list ((List.range ds.length).filterMap F))) : EW B env (tLc wi g tt te vs) P := by
  refine ew_lc fun O σ H j s R r => h O σ H j s R fun ds J H2 ⟨hl, hs, hp⟩ gr w => r ds J H2 ⟨hl, fun i acc => acc = (List.range i).filterMap F, rfl, fun i d acc e inv => ?_, fun acc inv => ?_⟩ gr w
  · intro O σ H v j s k R r
    refine hs i d e O σ H v j s k R fun e2 σ2 q s2 w2 => r e2 σ2 (q.mono fun b hb => ?_) s2 w2
    obtain ⟨hb, hu⟩ := hb
    subst inv
    cases q2 : F i with
    | none =>
      rw [q2] at hb
      subst hb
      rw [if_neg (show ¬ ((none : Option PyData).isSome = true) from Bool.false_ne_true)]
      show (List.range i).filterMap F = (List.range (i + 1)).filterMap F
      rw [List.range_succ, List.filterMap_append]
      simp [q2]
    | some u =>
      rw [q2] at hb
      subst hb
      rw [if_pos (show (some u).isSome = true from rfl)]
      refine (hu u q2).mono fun y hy => ?_
      show (List.range i).filterMap F ++ [y] = (List.range (i + 1)).filterMap F
      rw [hy, List.range_succ, List.filterMap_append]
      simp [q2]
  · subst inv
    exact hp
/-- .. some of them, each is G -/
theorem ew_lcSub {wi : TI} {g : TG} {tt : TT} {te : TE} {P : PyData → Prop} (G : PyData → Prop) (h : IT B env wi fun ds => ds.length ≤ 100000 ∧
    (∀ d, d ∈ ds → GC B vs (wipeE env vs) g d fun e2 => TW B e2 tt fun b => b = true → EW B e2 te G) ∧ ∀ acc : List PyData, acc.length ≤ ds.length → (∀ y, y ∈ acc → G y) → P (.list acc)) : EW B env (tLc wi g tt te vs) P := by
  refine ew_lc fun O σ H j s R r => h O σ H j s R fun ds J H2 ⟨hl, hs, hp⟩ gr w => r ds J H2 ⟨hl, fun i acc => acc.length ≤ i ∧ ∀ y, y ∈ acc → G y, ⟨Nat.le_refl _, fun _ h => by cases h⟩, fun i d acc e inv => ?_, fun acc inv => ?_⟩ gr w
  · intro O σ H v j s k R r
    refine hs d (List.mem_of_getElem? e) O σ H v j s k R fun e2 σ2 q s2 w2 => r e2 σ2 (q.mono fun b hb => ?_) s2 w2
    cases b with
    | false =>
      rw [if_neg Bool.false_ne_true]
      exact ⟨by have := inv.1; omega, inv.2⟩
    | true =>
      rw [if_pos rfl]
      refine (hb rfl).mono fun y hy => ⟨by rw [List.length_append, List.length_singleton]; have := inv.1; omega, fun z hz => ?_⟩
      rcases List.mem_append.mp hz with m | m
      · exact inv.2 z m
      · have : z = y := by simpa using m
        subst this
        exact hy
  · exact hp acc inv.1 inv.2
theorem sw_mid {t u : TS} {P : Post} (I : List Ent → Prop) (h : SW B env t ⟨I, P.R, P.B, P.C⟩) (k : ∀ e, I e → SW B e u P) : SW B env (tSeq t u) P :=
  sw_seq (h.mono (fun e q => k e q) (fun _ q => q) (fun _ q => q) (fun _ q => q))
theorem fm_none {α : Type} {f : Nat → Option α} : ∀ {n : Nat}, (∀ j, j < n → f j = none) → (List.range n).filterMap f = []
  | 0, _ => rfl
  | n + 1, h => by
    rw [List.range_succ, List.filterMap_append, fm_none fun j hj => h j (by omega)]
    simp [h n (by omega)]
theorem fm_first {α : Type} {f : Nat → Option α} {i : Nat} {u : α} (h0 : ∀ j, j < i → f j = none) (h1 : f i = some u) : ∀ {n : Nat}, i < n → ∃ r, (List.range n).filterMap f = u :: r
  | 0, h => by omega
  | n + 1, h => by
    rw [List.range_succ, List.filterMap_append]
    by_cases e : i = n
    · subst e
      rw [fm_none h0]
      exact ⟨[], by simp [h1]⟩
    · obtain ⟨r, hr⟩ := fm_first h0 h1 (n := n) (by omega)
      rw [hr]
      exact ⟨r ++ _, rfl⟩
theorem fm_map {α : Type} (f : Nat → Option α) (g : α → PyData) (n : Nat) : (List.range n).filterMap (fun i => (f i).map g) = ((List.range n).filterMap f).map g := by
  rw [List.map_filterMap]
theorem zipD_inv {xs ys : List PyData} {i : Nat} {d : PyData} (h : (zipD xs ys)[i]? = some d) : ∃ a b, xs[i]? = some a ∧ ys[i]? = some b ∧ d = .tuple [a, b] := by
  unfold zipD at h
  rw [List.getElem?_zipWith] at h
  cases e1 : xs[i]? with
  | none => rw [e1] at h; cases ys[i]? <;> cases h
  | some a =>
    cases e2 : ys[i]? with
    | none => rw [e1, e2] at h; cases h
    | some b =>
      rw [e1, e2] at h
      cases h
      exact ⟨a, b, rfl, rfl, rfl⟩
theorem map_inv {α : Type} {f : α → PyData} {xs : List α} {i : Nat} {d : PyData} (h : (xs.map f)[i]? = some d) : ∃ x, xs[i]? = some x ∧ d = f x := by
  rw [List.getElem?_map] at h
  cases e : xs[i]? with
  | none => rw [e] at h; cases h
  | some x => rw [e] at h; cases h; exact ⟨x, rfl, rfl⟩
theorem rangeD_inv {lo : Int} {n i : Nat} {d : PyData} (h : (rangeD lo n)[i]? = some d) : i < n ∧ d = .int (lo + i) := by
  unfold rangeD at h
  obtain ⟨x, e, rfl⟩ := map_inv h
  obtain ⟨hi, e2⟩ := List.getElem?_eq_some_iff.mp e
  have hn : i < n := by simpa using hi
  refine ⟨hn, ?_⟩
  rw [List.getElem_range] at e2
  subst e2
  rfl
end
end Dl
end
section
set_option Elab.async false
set_option linter.all false
set_option maxRecDepth 100000
/-! repr of anything but texts and dicts -/
namespace Dl
open PySem L2 PySem.Spec PyProof.Rows RZ
def rReprL : List V → Hp → VK → Prop := fun vs H Q => ∃ d : PyData, ((vs = [.non] ∧ d = .none) ∨ (∃ b, vs = [.bl b] ∧ d = .bool b) ∨ (∃ i, vs = [.int i] ∧ d = .int i ∧ i.natAbs.log2 < 1920)) ∧ Q (.str d.shown) H
theorem call_reprL {X : Cx} : CallR X (.builtin "repr") rReprL := by
  intro pins s σ H vs us Q I r h
  obtain ⟨d, h, q⟩ := h
  rcases h with ⟨rfl, rfl⟩ | ⟨b, rfl, rfl⟩ | ⟨i, rfl, rfl, hi⟩
  · cases r with
    | cons r1 rr =>
      cases rr
      cases r1
      rw [PyData.shown] at q
      exact PySem.P.repr_of_none ⟨.str _, H, I.tok _, ⟨_, rfl⟩, q⟩
  · cases r with
    | cons r1 rr =>
      cases rr
      cases r1
      rw [PyData.shown] at q
      refine PySem.P.repr_of_bool ⟨.str _, H, I.tok _, ⟨_, rfl⟩, ?_⟩
      cases b <;> exact q
  · cases r with
    | cons r1 rr =>
      cases rr
      obtain ⟨t, rfl⟩ := r1
      rw [PyData.shown] at q
      exact PySem.P.repr_of_int hi ⟨.str _, H, I.tok _, ⟨_, rfl⟩, q⟩
def rReprA (K : PySem.W.Frag) : List V → Hp → VK → Prop := fun vs H Q => rReprB K vs H Q ∨ rReprL vs H Q
theorem kReprA {X : Cx} {K : PySem.W.Frag} (h : X.K = K) (n : NoDig X.base) (hg : X.A.guards = some []) (hu : X.A.units + 64 < cLine) : CallR X (.builtin "repr") (rReprA K) := fun pins s σ H vs us Q I r z => by
  subst h
  rcases z with z | z
  · exact call_reprB n hg hu pins s σ H vs us Q I r z
  · exact call_reprL pins s σ H vs us Q I r z
section
variable {K : PySem.W.Frag} {Q : PyData → Prop}
theorem ra_list {ds : List PyData} (h1 : Shw (.list ds)) (h2 : (PyData.list ds).depth ≤ 50) (h3 : (PyData.list ds).shown.length ≤ sizeLine) (q : Q (.str (PyData.list ds).shown)) : CD (rReprA K) [.list ds] Q := fun F H vs j k R r => .inl (cd_repr ⟨_, rfl, ⟨_, .inl rfl⟩, h1, h2, h3, q⟩ F H vs j k R r)
theorem ra_tup {ds : List PyData} (h1 : Shw (.tuple ds)) (h2 : (PyData.tuple ds).depth ≤ 50) (h3 : (PyData.tuple ds).shown.length ≤ sizeLine) (q : Q (.str (PyData.tuple ds).shown)) : CD (rReprA K) [.tuple ds] Q := fun F H vs j k R r => .inl (cd_repr ⟨_, rfl, ⟨_, .inr rfl⟩, h1, h2, h3, q⟩ F H vs j k R r)
theorem ra_leaf {d : PyData} (h : d = .none ∨ (∃ b, d = .bool b) ∨ ∃ i : Int, d = .int i ∧ i.natAbs.log2 < 1920) (q : Q (.str d.shown)) : CD (rReprA K) [d] Q := fun F H vs j k R r => by
  refine .inr ⟨d, ?_, r _ _ H q (.refl j) (.str _)⟩
  cases k with
  | cons k1 k2 =>
    cases k2
    rcases h with rfl | ⟨b, rfl⟩ | ⟨i, rfl, hi⟩
    · cases k1; exact .inl ⟨rfl, rfl⟩
    · cases k1; exact .inr (.inl ⟨b, rfl, rfl⟩)
    · cases k1; exact .inr (.inr ⟨i, rfl, rfl, hi⟩)
theorem ew_reprOwnA {B : Fr} {env : List Ent} {i : Nat} {a : Addr} {ds : List PyData} (hi : env[i]? = some (.own a ds)) (hs : Shw (.list ds)) (hd : (PyData.list ds).depth ≤ 50) (hz : (PyData.list ds).shown.length ≤ sizeLine) (q : Q (.str (PyData.list ds).shown)) :
    EW B env (tCB (rReprA K) (tCons (tVar i) tNil)) Q := fun O σ H j s R r => by
  obtain ⟨c, e1, e2, vs, e3, k⟩ := s.get hi
  subst e2
  refine ⟨_, e1, .inl ⟨_, _, rfl, .lst (SqL.of (j.2 a _ e3).2) (k.dp K), ⟨ds, .inl rfl⟩, hs, hd, hz, r _ _ H q (.refl j) (.str _)⟩⟩
end
end Dl
end
section
set_option Elab.async false
set_option linter.all false
set_option maxRecDepth 100000
/-! lists unpacked, list(range(n)), list * int, extend -/
namespace Dl
open PySem L2 PySem.Spec PyProof.Rows RZ
section
variable {B : Fr} {env : List Ent} {K : PySem.W.Frag}
theorem kUnl {X : Cx} {es : List Expr} {k : Nat} {t : TGs} {n : Nat} {pos : Pos} (hK : X.K = K) (hc : X.calm = true) (h : PGs X es t)
   (hn : (assignEach es X.env).length = n := by rfl) (hst : (assignEach es X.env).findIdx? (·.1) = none := by rfl) : PG X (.Tuple es k pos) (gUnl K n t) := hK ▸ pg_unl hc h hn hst
theorem gw_unl {Q : List Ent → Prop} {d : PyData} {gs : TGs} {n : Nat} (h : ∃ ds, d = .list ds ∧ ds.length = n ∧ GWs B env gs ds Q) : GW B env (gUnl K n gs) d Q := fun Z H0 U O σ H v s k R r => by
  obtain ⟨ds, rfl, hl, q⟩ := h
  cases k with
  | lst w e ha => exact ⟨_, _, rfl, SqL.of e, by rw [ha.len]; exact hl, q Z H0 U O σ H _ s ha R r⟩
theorem ew_lstRg {te : TE} {Q : PyData → Prop} (h : EW B env te fun d => ∃ n : Int, d = .int n ∧ RgOk 0 n ∧ Q (.list (rangeD 0 n.toNat))) : EW B env (tLstRg (tRg1 te)) Q := fun O σ H j s R r =>
  h O σ H j s _ fun d v H2 ⟨n, e, ok, q⟩ g k => by
    subst e
    cases k
    refine ⟨n, rfl, ok, fun p hp => ?_⟩
    have g2 : Gro (B.lock O) H2 (upd H2 p (.lst (rgV 0 n))) := .new g.2 hp
    refine r _ _ _ q (g.trans g2) (.lst (Fr.fresh g.2 hp) upd_same ?_)
    have e : rgV 0 n = ((List.range n.toNat).map fun (i : Nat) => (0 : Int) + (i : Int)).map V.int := by
      unfold rgV
      rw [Int.sub_zero, List.map_map]
      rfl
    have e2 : rangeD 0 n.toNat = ((List.range n.toNat).map fun (i : Nat) => (0 : Int) + (i : Int)).map PyData.int := by
      unfold rangeD
      rw [List.map_map]
      rfl
    rw [e, e2]
    exact DqA.ofInts _
theorem od_mulNL {Q : PyData → Prop} {x y : PyData} (h : ∃ d k, x = .list [d] ∧ y = .int k ∧ 0 ≤ k ∧ k ≤ 1000 ∧ Q (.list (List.replicate k.toNat d))) : OD (rMulN K) x y Q := fun F H u v j kx ky R r => by
  obtain ⟨d, k, rfl, rfl, h0, h1, q⟩ := h
  cases ky
  cases kx with
  | @lst a vl _ w e ha =>
    cases ha with
    | @cons z zs _ _ k1 k2 =>
      cases k2
      refine .inl (.inr (.inl ⟨a, k, [z], rfl, rfl, e, by omega, by omega, ?_, fun p hp => ?_⟩))
      · have : k.toNat ≤ 1000 := by omega
        rw [List.length_singleton, Nat.one_mul]
        exact Nat.le_trans this (by decide)
      · have ee : (List.replicate k.toNat [z]).flatten = List.replicate k.toNat z := by
          induction k.toNat with
          | zero => rfl
          | succ n ih => rw [List.replicate_succ, List.flatten_cons, ih, List.replicate_succ]; rfl
        rw [ee]
        have g : Gro F H (upd H p (.lst (List.replicate k.toNat z))) := .new j hp
        have al : ∀ n, DqA F.W H (List.replicate n z) (List.replicate n d) := fun n => by
          induction n with
          | zero => exact .nil
          | succ n ih => exact .cons k1 ih
        exact r _ _ _ q g (.lst (Fr.fresh j hp) upd_same ((al _).gro g))
theorem own_gone {a : Addr} {ds : List PyData} : ∀ (env : List Ent) (i : Nat), env[i]? = some (.own a ds) → (owned env).Nodup → a ∉ owned (env.set i (.raw (.ref a)))
  | [], i, h, _ => by simp at h
  | c :: r, 0, h, nd => by
    simp at h
    subst h
    exact (List.nodup_cons.mp nd).1
  | c :: r, i + 1, h, nd => by
    have h' : r[i]? = some (.own a ds) := by simpa using h
    cases c with
    | own b es =>
      intro z
      rcases List.mem_cons.mp (show a ∈ b :: owned (r.set i _) from z) with q | q
      · subst q; exact (List.nodup_cons.mp nd).1 (owned_get h')
      · exact own_gone r i h' (List.nodup_cons.mp nd).2 q
    | non => exact own_gone r i h' nd
    | dat d => exact own_gone r i h' nd
    | raw v => exact own_gone r i h' nd
/-- x.extend(e), x a list of one's own -/
theorem sw_extend {P : Post} {i : Nat} {a : Addr} {ds : List PyData} {te : TE} (hi : env[i]? = some (.own a ds)) (h : EW B env te fun d => ∃ es, d = .list es ∧ ds.length + es.length ≤ 100000 ∧ P.N (env.set i (.own a (ds ++ es)))) :
    SW B env (tDrop (tBM K "list" rExtend (tVar i) (tCons te tNil))) P := fun Z H0 U O σ H D s e => by
  obtain ⟨c, e1, e2, vs, e3, k⟩ := s.sl.get hi
  subst e2
  refine ⟨_, e1, .inl ⟨rfl, _, SqL.of (s.j.2 a _ e3).2⟩, h O σ H s.j s.sl _ fun d v H2 ⟨es, ed, hl, q⟩ g kd => ?_⟩
  subst ed
  have s2 := s.gro g
  have hL := (g.2.2 a _ e3).2
  cases kd with
  | @lst b zs _ wb eb hb =>
    have hin : a ∈ owned env := owned_get hi
    refine ⟨a, b, vs, zs, rfl, rfl, hL, eb, by rw [k.len, hb.len]; exact Nat.le_trans hl (by decide), ?_⟩
    let O2 : Lk := fun x => if x = a then some (.lst (vs ++ zs)) else O x
    have o2 : ∀ x, x ≠ a → O2 x = O x := fun x hx => if_neg hx
    have o2a : O2 a = some (.lst (vs ++ zs)) := if_pos rfl
    have off : ∀ x, ¬ (B.lock O).W x → x ≠ a ∧ ¬ (B.lock O2).W x := fun x w => by
      have hx : x ≠ a := fun z => w (.inr (by rw [z, e3]; exact nofun))
      exact ⟨hx, fun w2 => w (w2.elim .inl fun y => .inr (by rw [← o2 x hx]; exact y))⟩
    have mv : ∀ x o, ¬ (B.lock O).W x → H2 x = some o → ¬ (B.lock O2).W x ∧ (upd H2 a (.lst (vs ++ zs))) x = some o := fun x o w q => ⟨(off x w).2, by rw [upd_ne (off x w).1]; exact q⟩
    have nBa : ¬ B.W a := (s.j.2 a _ e3).1
    have jj : (B.lock O2).J (upd H2 a (.lst (vs ++ zs))) := ⟨B.loc H2 _ (fun x w => upd_ne (fun z => nBa (z ▸ w))) s2.j.1, fun x o q => by
      by_cases hx : x = a
      · subst hx
        rw [o2a] at q
        cases q
        exact ⟨nBa, upd_same⟩
      · rw [o2 x hx] at q
        exact ⟨(s2.j.2 x o q).1, by rw [upd_ne hx]; exact (s2.j.2 x o q).2⟩⟩
    have k3 : DqA (B.lock O2).W (upd H2 a (.lst (vs ++ zs))) (vs ++ zs) (ds ++ es) := (DqA.to mv ds vs (k.gro g)).append (DqA.to mv es zs hb)
    have hz : Z a = none := by
      cases q : Z a with
      | none => rfl
      | some o => exact absurd hin (s.z a o q).2
    have es' : σ.set i (some (.ref a)) = σ := by
      obtain ⟨hl, he⟩ := List.getElem?_eq_some_iff.mp e1
      conv => rhs; rw [← List.set_getElem_self hl]
      rw [he]
    refine e.nx _ O2 σ _ q ⟨jj, ?_, owned_set_own_nd i (.inr ⟨ds, hi⟩) s.nd, fun x o z => ?_, fun x o w zb u h0 => ?_, fun x z => ?_⟩
    · have q0 : Slots (B.lock O).W O H2 (σ.set i (some (.ref a))) (env.set i (.raw (.ref a))) := s2.sl.set i rfl
      have q1 : Slots (B.lock O2).W O2 (upd H2 a (.lst (vs ++ zs))) (σ.set i (some (.ref a))) (env.set i (.raw (.ref a))) := q0.to mv fun x hx => o2 x fun z => own_gone env i hi s.nd (z ▸ hx)
      have q2 := q1.set i (s := some (.ref a)) (e := .own a (ds ++ es)) ⟨rfl, vs ++ zs, o2a, k3⟩
      rw [List.set_set, List.set_set, es'] at q2
      exact q2
    · have nx : x ≠ a := fun z2 => by subst z2; rw [hz] at z; cases z
      refine ⟨(o2 x nx).trans (s.z x o z).1, fun m => ?_⟩
      rcases owned_set_own i x m with r | r
      · exact nx r
      · exact (s.z x o z).2 r
    · have q := s2.keep x o w zb u h0
      by_cases hx : x = a
      · subst hx
        rcases s.dom x (by rw [e3]; exact nofun) with r | r | r
        · exact absurd zb r
        · exact absurd r u
        · rw [h0] at r; cases r
      · rw [upd_ne hx]; exact q
    · by_cases hx : x = a
      · subst hx; exact s.dom x (by rw [e3]; exact nofun)
      · exact s.dom x (by rw [← o2 x hx]; exact z)
/-- x, a list of one's own, is from now on data: the statement begins so -/
theorem sw_thaw {ts : TS} {P : Post} (i : Nat) {a : Addr} {ds : List PyData} (hi : env[i]? = some (.own a ds)) (h : SW B (env.set i (.dat (.list ds))) ts P) : SW B env ts P := sw_freeze hi h
end
end Dl
end
section
set_option Elab.async false
set_option linter.all false
set_option maxRecDepth 100000
namespace Ev
open PySem L2 PySem.Spec PyProof.Rows Dl RZ
/-! from K01a -/
/-! ### the source of draws -/
abbrev kCells : Key := Sum.inr "cells"
abbrev kLeft : Key := Sum.inr "left"
abbrev kMixed : Key := Sum.inr "mixed"
abbrev kTurn : Key := Sum.inr "turn"
theorem k1 : ¬ kCells = kLeft := by decide +kernel
theorem k2 : ¬ kMixed = kLeft := by decide +kernel
theorem k3 : ¬ kTurn = kLeft := by decide +kernel
theorem k4 : ¬ kCells = kTurn := by decide +kernel
theorem k5 : ¬ kLeft = kTurn := by decide +kernel
theorem k6 : ¬ kMixed = kTurn := by decide +kernel
theorem k7 : ¬ kCells = kMixed := by decide +kernel
theorem k8 : ¬ kLeft = kMixed := by decide +kernel
theorem k9 : ¬ kTurn = kMixed := by decide +kernel
structure SrcC (p l : Addr) (H : Hp) (kvs : List (Key × V)) (cells : List Int) (x m t : Int) : Prop where
  hd : H p = some (.dK kvs)
  hn : kvs.length ≤ 100
  hc : valV kvs kCells = some (.ref l)
  hx : valV kvs kLeft = some (.int x)
  hm : valV kvs kMixed = some (.int m)
  ht : valV kvs kTurn = some (.int t)
  hl : H l = some (.lst (cells.map V.int))
  hb : -(2 ^ 64) < m ∧ m < 2 ^ 64
def Src (p l : Addr) (H : Hp) : Prop := ∃ kvs cells x m t, SrcC p l H kvs cells x m t
def Fsrc (p l : Addr) : Fr where
  W := fun a => a = p ∨ a = l
  J := Src p l
  loc := fun H H' e ⟨kvs, cells, x, m, t, s⟩ => ⟨kvs, cells, x, m, t, by rw [e p (.inl rfl)]; exact s.hd, s.hn, s.hc, s.hx, s.hm, s.ht, by rw [e l (.inr rfl)]; exact s.hl, s.hb⟩
  dom := fun H a ⟨kvs, cells, x, m, t, s⟩ w => by
    rcases w with w | w
    · rw [w, s.hd]; exact nofun
    · rw [w, s.hl]; exact nofun
/-- the source has been drawn from, all else is as it was -/
def Drw (p l : Addr) (H H' : Hp) : Prop := ∀ a o, a ≠ p → a ≠ l → H a = some o → H' a = some o
theorem Drw.gro {p l : Addr} {O : Lk} {H H' : Hp} (d : Drw p l H H') (j : ((Fsrc p l).lock O).J H) (s : Src p l H') : Gro ((Fsrc p l).lock O) H H' :=
  ⟨fun a o w e => d a o (fun z => w (.inl (.inl z))) (fun z => w (.inl (.inr z))) e, s, fun a o e => ⟨(j.2 a o e).1, d a o (fun z => (j.2 a o e).1 (.inl z)) (fun z => (j.2 a o e).1 (.inr z)) (j.2 a o e).2⟩⟩
theorem putK_len {kvs : List (Key × V)} {k : Key} {v w : V} (h : valV kvs k = some w) : (putK kvs k v).length = kvs.length := by
  unfold putK
  rw [valV_any, h]
  simp
theorem SrcC.put {p l : Addr} {H : Hp} {kvs : List (Key × V)} {cells : List Int} {x m t : Int} (s : SrcC p l H kvs cells x m t) : p ≠ l := ne_of s.hd s.hl (by intro z; cases z)
theorem SrcC.gL {p l : Addr} {H : Hp} {kvs : List (Key × V)} {cells : List Int} {x m t : Int} (s : SrcC p l H kvs cells x m t) : DGet H p (.str "left") (some (.int x)) := by
  have e := DGet.k (k := kLeft) s.hd
  rw [s.hx] at e
  exact e
theorem SrcC.gC {p l : Addr} {H : Hp} {kvs : List (Key × V)} {cells : List Int} {x m t : Int} (s : SrcC p l H kvs cells x m t) : DGet H p (.str "cells") (some (.ref l)) := by
  have e := DGet.k (k := kCells) s.hd
  rw [s.hc] at e
  exact e
theorem SrcC.gM {p l : Addr} {H : Hp} {kvs : List (Key × V)} {cells : List Int} {x m t : Int} (s : SrcC p l H kvs cells x m t) : DGet H p (.str "mixed") (some (.int m)) := by
  have e := DGet.k (k := kMixed) s.hd
  rw [s.hm] at e
  exact e
theorem SrcC.gT {p l : Addr} {H : Hp} {kvs : List (Key × V)} {cells : List Int} {x m t : Int} (s : SrcC p l H kvs cells x m t) : DGet H p (.str "turn") (some (.int t)) := by
  have e := DGet.k (k := kTurn) s.hd
  rw [s.ht] at e
  exact e
theorem SrcC.pL {p l : Addr} {H : Hp} {kvs : List (Key × V)} {cells : List Int} {x m t : Int} (s : SrcC p l H kvs cells x m t) (y : Int) : SrcC p l (upd H p (.dK (putK kvs kLeft (.int y)))) (putK kvs kLeft (.int y)) cells y m t :=
  ⟨upd_same, by rw [putK_len s.hx]; exact s.hn, by rw [valV_put, if_neg k1]; exact s.hc, by rw [valV_put, if_pos rfl], by rw [valV_put, if_neg k2]; exact s.hm, by rw [valV_put, if_neg k3]; exact s.ht, by rw [upd_ne s.put.symm]; exact s.hl, s.hb⟩
theorem SrcC.pT {p l : Addr} {H : Hp} {kvs : List (Key × V)} {cells : List Int} {x m t : Int} (s : SrcC p l H kvs cells x m t) (y : Int) : SrcC p l (upd H p (.dK (putK kvs kTurn (.int y)))) (putK kvs kTurn (.int y)) cells x m y :=
  ⟨upd_same, by rw [putK_len s.ht]; exact s.hn, by rw [valV_put, if_neg k4]; exact s.hc, by rw [valV_put, if_neg k5]; exact s.hx, by rw [valV_put, if_neg k6]; exact s.hm, by rw [valV_put, if_pos rfl], by rw [upd_ne s.put.symm]; exact s.hl, s.hb⟩
theorem SrcC.pM {p l : Addr} {H : Hp} {kvs : List (Key × V)} {cells : List Int} {x m t : Int} (s : SrcC p l H kvs cells x m t) (y : Int) (hy : -(2 ^ 64) < y ∧ y < 2 ^ 64) : SrcC p l (upd H p (.dK (putK kvs kMixed (.int y)))) (putK kvs kMixed (.int y)) cells x y t :=
  ⟨upd_same, by rw [putK_len s.hm]; exact s.hn, by rw [valV_put, if_neg k7]; exact s.hc, by rw [valV_put, if_neg k8]; exact s.hx, by rw [valV_put, if_pos rfl], by rw [valV_put, if_neg k9]; exact s.ht, by rw [upd_ne s.put.symm]; exact s.hl, hy⟩
theorem SrcC.pop {p l : Addr} {H : Hp} {kvs : List (Key × V)} {cells : List Int} {x m t : Int} (s : SrcC p l H kvs cells x m t) : SrcC p l (upd H l (.lst (cells.map V.int).dropLast)) kvs cells.dropLast x m t :=
  ⟨by rw [upd_ne s.put]; exact s.hd, s.hn, s.hc, s.hx, s.hm, s.ht, by rw [upd_same, List.map_dropLast], s.hb⟩
theorem Drw.put {p l : Addr} {H H1 : Hp} {o : HO} (d : Drw p l H H1) : Drw p l H (upd H1 p o) := fun a u h1 h2 e => by rw [upd_ne h1]; exact d a u h1 h2 e
theorem Drw.putl {p l : Addr} {H H1 : Hp} {o : HO} (d : Drw p l H H1) : Drw p l H (upd H1 l o) := fun a u h1 h2 e => by rw [upd_ne h2]; exact d a u h1 h2 e
theorem len100 {kvs : List (Key × V)} (h : kvs.length ≤ 100) : kvs.length < sizeLine := Nat.lt_of_le_of_lt h (by decide)
theorem max_eq {many : Int} : (if many > 1 then many else 1) = max 1 many := by
  rw [Int.max_def]; split <;> split <;> omega
theorem while_at {c : TT} {tb : TS} {D : Ends} {σ : L2.St} {H : Hp} (W : Nat → Hp → Prop) (h0 : ∃ m, W m H) (after : ∀ H1, (∃ m, W m H1) → D.nx σ H1)
    (turn : (∀ H1, (∃ m, W m H1) → D.nx σ H1) → ∀ m H1, W m H1 → c σ H1 fun b H2 => if b = true then tb { D with nx := fun σ' H' => σ' = σ ∧ ∃ m', m' < m ∧ W m' H', ct := fun σ' H' => σ' = σ ∧ ∃ m', m' < m ∧ W m' H', bk := D.nx } σ H2 else D.nx σ H2)
    (mono : ∀ σ H Q Q', (∀ b H1, Q b H1 → Q' b H1) → c σ H Q → c σ H Q') : tWhile c tb D σ H := by
  refine ⟨fun m σ' H' => σ' = σ ∧ W m H', ?_, ?_⟩
  · obtain ⟨m, w⟩ := h0
    exact ⟨m, rfl, w⟩
  · rintro m σ' H1 ⟨rfl, w⟩
    refine mono _ _ _ _ (fun b H2 q => ?_) (turn after m H1 w)
    cases b with
    | true =>
      rw [if_pos rfl] at q
      rw [if_pos rfl]
      exact ⟨_, fun σ2 H2 ⟨e, m', hm, w2⟩ => ⟨m', hm, e, w2⟩, q⟩
    | false => exact q
def mPick (B : Fr) (es : List Ent) (R : PyData → Prop) : Prop := ∃ (p l : Addr) (many : Int), B = Fsrc p l ∧ es = [.raw (.ref p), .dat (.int many)] ∧ many.natAbs < 2 ^ 64 ∧ ∀ r : Int, 0 ≤ r → r < max 1 many → R (.int r)
section
variable {P : Program} {w : World} {K : PySem.W.Frag} {mg : Str → Option Value} {base : Heap}
end
/-! from K01b -/
section
variable {P : Program} {w : World} {K : PySem.W.Frag} {mg : Str → Option Value} {base : Heap}
def spSource (K : PySem.W.Frag) : Sp := fun vs H Q _ => ∃ (a : Addr) (ns : List Int), vs = [.ref a] ∧ SqL K H a (ns.map V.int) ∧ ns.length ≤ 63 ∧ ∀ p l H', Same H H' → H p = none → H l = none → Src p l H' → Q (.ref p) H'
theorem merge4 {v1 v2 v3 v4 : V} : mergeK [] [(kCells, v1), (kLeft, v2), (kMixed, v3), (kTurn, v4)] = [(kCells, v1), (kLeft, v2), (kMixed, v3), (kTurn, v4)] := by
  show putK (putK (putK (putK [] kCells v1) kLeft v2) kMixed v3) kTurn v4 = _
  have n0 : valV ([] : List (Key × V)) kCells = none := rfl
  have n1 : valV [(kCells, v1)] kLeft = none := by rw [valV_neg k1]; rfl
  have n2 : valV [(kCells, v1), (kLeft, v2)] kMixed = none := by rw [valV_neg k7, valV_neg k8]; rfl
  have n3 : valV [(kCells, v1), (kLeft, v2), (kMixed, v3)] kTurn = none := by rw [valV_neg k4, valV_neg k5, valV_neg k6]; rfl
  rw [putK_new _ n0]
  show putK (putK (putK [(kCells, v1)] kLeft v2) kMixed v3) kTurn v4 = _
  rw [putK_new _ n1]
  show putK (putK [(kCells, v1), (kLeft, v2)] kMixed v3) kTurn v4 = _
  rw [putK_new _ n2]
  show putK [(kCells, v1), (kLeft, v2), (kMixed, v3)] kTurn v4 = _
  rw [putK_new _ n3]
  rfl
end
/-! from K01c -/
theorem ex_b {b : Bool} {Q : Bool → Prop} (q : Q b) : ∃ c, PyData.bool b = .bool c ∧ Q c := ⟨b, rfl, q⟩
theorem ex_i {b : Int} {Q : Int → Prop} (q : Q b) : ∃ c, PyData.int b = .int c ∧ Q c := ⟨b, rfl, q⟩
theorem ex_t {b : List PyData} {Q : List PyData → Prop} (q : Q b) : ∃ c, PyData.tuple b = .tuple c ∧ Q c := ⟨b, rfl, q⟩
theorem ex_l {b : List PyData} {Q : List PyData → Prop} (q : Q b) : ∃ c, PyData.list b = .list c ∧ Q c := ⟨b, rfl, q⟩
theorem ex_2 {a b : PyData} {Q : PyData → PyData → Prop} (q : Q a b) : ∃ c d, [a, b] = [c, d] ∧ Q c d := ⟨a, b, rfl, q⟩
theorem len_and {ds : List PyData} {A : Prop} (h : ds.length ≤ 100000) (a : A) : ds.length ≤ 100000 ∧ A := ⟨h, a⟩
theorem own_and {es : List Ent} {A : Prop} (h : owned es = []) (a : A) : owned es = [] ∧ A := ⟨h, a⟩

/-! ### sizes -/
def Bit (n : Nat) (x : Int) : Prop := x.natAbs < 2 ^ n
theorem Bit.mono {n m : Nat} {x : Int} (h : Bit n x) (l : n ≤ m) : Bit m x := Nat.lt_of_lt_of_le h (Nat.pow_le_pow_right (by decide) l)
theorem Bit.mul {n m : Nat} {x y : Int} (h : Bit n x) (g : Bit m y) : Bit (n + m) (x * y) := wide_lt h g
theorem Bit.add {n : Nat} {x y : Int} (h : Bit n x) (g : Bit n y) : Bit (n + 1) (x + y) := by
  unfold Bit at *
  rw [Nat.pow_succ]
  omega
theorem Bit.sub {n : Nat} {x y : Int} (h : Bit n x) (g : Bit n y) : Bit (n + 1) (x - y) := by
  unfold Bit at *
  rw [Nat.pow_succ]
  omega
theorem Bit.neg {n : Nat} {x : Int} (h : Bit n x) : Bit n (-x) := by
  unfold Bit at *
  omega
theorem Bit.mulOk {n m : Nat} {x y : Int} (h : Bit n x) (g : Bit m y) (l : n + m ≤ 900000) : CMulA x y := by
  refine .inl (wide_mul (a := n + 1) (b := m + 1) (h.mono (Nat.le_succ n)) (g.mono (Nat.le_succ m)) (Nat.succ_pos _) (Nat.succ_pos _) (by omega))
theorem Bit.divOk {n : Nat} {x y : Int} (h : Bit n y) (h0 : y ≠ 0) (l : n ≤ 8999) : CDivG x y := ⟨h0, by
  have e : y.natAbs.log2 < n + 1 := PySem.Flt.log2_lt_of (Nat.succ_pos n) (h.mono (Nat.le_succ n))
  omega⟩
theorem Bit.log {n m : Nat} {x : Int} (h : Bit n x) (l : n < m) : x.natAbs.log2 < m := by
  have e : x.natAbs.log2 < n + 1 := PySem.Flt.log2_lt_of (Nat.succ_pos n) (h.mono (Nat.le_succ n))
  omega

/-! ### fractions -/
abbrev frD (x : Int × Int) : PyData := .tuple [.int x.1, .int x.2]
def gc (a b : Int) : Int := ((Nat.gcd a.natAbs b.natAbs : Nat) : Int)
def lst (a b : Int) : Int × Int := (a.fdiv (if 0 < b then gc a b else 0 - gc a b), b.fdiv (if 0 < b then gc a b else 0 - gc a b))
structure Fq (n : Nat) (x : Int × Int) : Prop where
  pos : 0 < x.2
  b1 : Bit n x.1
  b2 : Bit n x.2
theorem Fq.mono {n m : Nat} {x : Int × Int} (h : Fq n x) (l : n ≤ m) : Fq m x := ⟨h.pos, h.b1.mono l, h.b2.mono l⟩
theorem gc_pos {a b : Int} (h : b ≠ 0) : 0 < gc a b := by
  unfold gc
  have : 0 < Nat.gcd a.natAbs b.natAbs := Nat.gcd_pos_of_pos_right _ (by omega)
  omega
theorem gc_dvd1 (a b : Int) : gc a b ∣ a := by
  unfold gc
  exact Int.ofNat_dvd_left.mpr (Nat.gcd_dvd_left _ _)
theorem gc_dvd2 (a b : Int) : gc a b ∣ b := by
  unfold gc
  exact Int.ofNat_dvd_left.mpr (Nat.gcd_dvd_right _ _)
theorem gc_neg (a b : Int) : gc (-a) (-b) = gc a b := by
  unfold gc
  rw [Int.natAbs_neg, Int.natAbs_neg]
theorem gc_bit {n : Nat} {a b : Int} (h : b ≠ 0) (hb : Bit n b) : Bit n (gc a b) := by
  unfold Bit gc at *
  have := Nat.gcd_le_right a.natAbs (show 0 < b.natAbs by omega)
  omega
theorem fdiv_of {g c : Int} (h : g ≠ 0) : (g * c).fdiv g = c := Int.mul_fdiv_cancel_left c h
theorem fdiv_of' {g c : Int} (h : g ≠ 0) : (g * c).fdiv (0 - g) = -c := by
  have e : g * c = (0 - g) * (-c) := by
    rw [Int.zero_sub, Int.neg_mul_neg]
  rw [e]
  exact Int.mul_fdiv_cancel_left _ (by omega)
/-- what both ways make -/
theorem lst_neg {p q : Int} (h : q < 0) : ((-p).fdiv (gc (-p) (-q)), (-q).fdiv (gc (-p) (-q))) = lst p q := by
  have g0 : gc p q ≠ 0 := by have := gc_pos (a := p) (b := q) (by omega); omega
  obtain ⟨c, hc⟩ := gc_dvd1 p q
  obtain ⟨d, hd⟩ := gc_dvd2 p q
  unfold lst
  rw [gc_neg, if_neg (show ¬ (0 < q) by omega)]
  generalize gc p q = g at *
  subst hc
  subst hd
  rw [fdiv_of' g0, fdiv_of' g0, ← Int.mul_neg, ← Int.mul_neg, fdiv_of g0, fdiv_of g0]
theorem lst_pos {p q : Int} (h : 0 < q) : lst p q = (p.fdiv (gc p q), q.fdiv (gc p q)) := by
  unfold lst
  rw [if_pos h]
theorem pos_right {g d : Int} (hg : 0 < g) (h : 0 < g * d) : 0 < d := by
  by_cases hd : 0 < d
  · exact hd
  · have e := Int.mul_le_mul_of_nonneg_left (show d ≤ 0 by omega) (show 0 ≤ g by omega)
    rw [Int.mul_zero] at e
    omega
theorem lst_fq {n : Nat} {p q : Int} (h0 : q ≠ 0) (h1 : Bit n p) (h2 : Bit n q) : Fq n (lst p q) := by
  have g0 := gc_pos (a := p) (b := q) h0
  obtain ⟨c, hc⟩ := gc_dvd1 p q
  obtain ⟨d, hd⟩ := gc_dvd2 p q
  have key : ∀ g c n : Int, 0 < g → n = g * c → c.natAbs ≤ n.natAbs := by
    intro g c n hg e
    rw [e, Int.natAbs_mul]
    exact Nat.le_mul_of_pos_left _ (by omega)
  have b1 := key _ _ _ g0 hc
  have b2 := key _ _ _ g0 hd
  have dpos : 0 < q → 0 < d := fun h => by
    rw [hd] at h
    exact pos_right g0 h
  have dneg : q < 0 → d < 0 := fun h => by
    have : 0 < gc p q * (-d) := by rw [Int.mul_neg, ← hd]; omega
    have := pos_right g0 this
    omega
  unfold lst
  by_cases hq : 0 < q
  · rw [if_pos hq]
    have e1 : p.fdiv (gc p q) = c := by
      conv => lhs; lhs; rw [hc]
      exact fdiv_of (by omega)
    have e2 : q.fdiv (gc p q) = d := by
      conv => lhs; lhs; rw [hd]
      exact fdiv_of (by omega)
    rw [e1, e2]
    exact ⟨dpos hq, Nat.lt_of_le_of_lt b1 h1, Nat.lt_of_le_of_lt b2 h2⟩
  · rw [if_neg hq]
    have e1 : p.fdiv (0 - gc p q) = -c := by
      conv => lhs; lhs; rw [hc]
      exact fdiv_of' (by omega)
    have e2 : q.fdiv (0 - gc p q) = -d := by
      conv => lhs; lhs; rw [hd]
      exact fdiv_of' (by omega)
    rw [e1, e2]
    have := dneg (by omega)
    refine ⟨by show 0 < -d; omega, ?_, ?_⟩
    · unfold Bit at *; show (-c).natAbs < _; omega
    · unfold Bit at *; show (-d).natAbs < _; omega
/-! ### one step of a reading -/
section
variable {P : Program} {w : World} {K : PySem.W.Frag} {mg : Str → Option Value} {base : Heap}
def mFr (_ : Fr) (es : List Ent) (R : PyData → Prop) : Prop := ∃ p q : Int, es = [.dat (.int p), .dat (.int q)] ∧ q ≠ 0 ∧ Bit 8999 q ∧ R (frD (lst p q))
end
/-! from K01d -/
section
variable {P : Program} {w : World} {K : PySem.W.Frag} {mg : Str → Option Value} {base : Heap}
def pl (x y : Int × Int) : Int × Int := lst (x.1 * y.2 + y.1 * x.2) (x.2 * y.2)
def mi (x y : Int × Int) : Int × Int := lst (x.1 * y.2 - y.1 * x.2) (x.2 * y.2)
def tm (x y : Int × Int) : Int × Int := lst (x.1 * y.1) (x.2 * y.2)
def ov (x y : Int × Int) : PyData := if y.1 = 0 then .none else frD (lst (x.1 * y.2) (x.2 * y.1))
def lessF (x y : Int × Int) : Bool := decide (x.1 * y.2 < y.1 * x.2)
def mBin (f : Int × Int → Int × Int → Int × Int) (_ : Fr) (es : List Ent) (R : PyData → Prop) : Prop := ∃ x y : Int × Int, es = [.dat (frD x), .dat (frD y)] ∧ Fq 4000 x ∧ Fq 4000 y ∧ R (frD (f x y))
def mOver (_ : Fr) (es : List Ent) (R : PyData → Prop) : Prop := ∃ x y : Int × Int, es = [.dat (frD x), .dat (frD y)] ∧ Fq 4000 x ∧ Fq 4000 y ∧ R (ov x y)
def mLess (_ : Fr) (es : List Ent) (R : PyData → Prop) : Prop := ∃ x y : Int × Int, es = [.dat (frD x), .dat (frD y)] ∧ Fq 4000 x ∧ Fq 4000 y ∧ R (.bool (lessF x y))
def mFloor (_ : Fr) (es : List Ent) (R : PyData → Prop) : Prop := ∃ x : Int × Int, es = [.dat (frD x)] ∧ Fq 4000 x ∧ R (.int (x.1.fdiv x.2))
def mCeil (_ : Fr) (es : List Ent) (R : PyData → Prop) : Prop := ∃ x : Int × Int, es = [.dat (frD x)] ∧ Fq 4000 x ∧ R (.int (-((-x.1).fdiv x.2)))
theorem fr_at {p q : Int} {R : PyData → Prop} {B : Fr} (h0 : q ≠ 0) (h9 : Bit 8999 q) (r : R (frD (lst p q))) : mFr B [.dat (.int p), .dat (.int q)] R := ⟨p, q, rfl, h0, h9, r⟩
theorem mul_ne {a b : Int} (h : 0 < a) (g : b ≠ 0) : a * b ≠ 0 := Int.mul_ne_zero (by omega) g
end
/-! from K01e -/
section
variable {P : Program} {w : World} {K : PySem.W.Frag} {mg : Str → Option Value} {base : Heap}
/-! ### lists of fractions -/
def sq (b : Bool) (xs : List (Int × Int)) : PyData := if b = true then .tuple (xs.map frD) else .list (xs.map frD)
def totF (xs : List (Int × Int)) : Int × Int := xs.foldl pl (0, 1)
def lowF (a : Int × Int) (b : Int × Int) : Int × Int := if lessF b a = true then b else a
def higF (a : Int × Int) (b : Int × Int) : Int × Int := if lessF a b = true then b else a
theorem lowF_t {a b : Int × Int} (h : lessF b a = true) : lowF a b = b := if_pos h
theorem lowF_f {a b : Int × Int} (h : ¬ lessF b a = true) : lowF a b = a := if_neg h
theorem higF_t {a b : Int × Int} (h : lessF a b = true) : higF a b = b := if_pos h
theorem higF_f {a b : Int × Int} (h : ¬ lessF a b = true) : higF a b = a := if_neg h
def extF (h : Bool) (xs : List (Int × Int)) : Int × Int := xs.foldl (if h = true then higF else lowF) (xs.headD (0, 1))
def mTotal (_ : Fr) (es : List Ent) (R : PyData → Prop) : Prop := ∃ b xs, es = [.dat (sq b xs)] ∧ (∀ x, x ∈ xs → Fq 160 x) ∧ xs.length ≤ 24 ∧ R (frD (totF xs))
def mExt (h : Bool) (_ : Fr) (es : List Ent) (R : PyData → Prop) : Prop := ∃ b xs, es = [.dat (sq b xs)] ∧ (∀ x, x ∈ xs → Fq 160 x) ∧ xs.length ≤ 24 ∧ xs ≠ [] ∧ R (frD (extF h xs))
theorem pl_fq {n m : Nat} {x y : Int × Int} (hx : Fq n x) (hy : Fq m y) : Fq (n + m + 1) (pl x y) := by
  refine lst_fq (mul_ne hx.pos (by have := hy.pos; omega)) (Bit.add (hx.b1.mul hy.b2) ?_) ((hx.b2.mul hy.b2).mono (Nat.le_succ _))
  have := hy.b1.mul hx.b2
  rw [Nat.add_comm] at this
  exact this
theorem tot_fq : ∀ (xs : List (Int × Int)) (a : Int × Int) (n : Nat), Fq n a → (∀ x, x ∈ xs → Fq 160 x) → Fq (n + 161 * xs.length) (xs.foldl pl a)
  | [], a, n, ha, _ => ha
  | x :: xs, a, n, ha, h => by
    have e := tot_fq xs (pl a x) (n + 160 + 1) (pl_fq ha (h x List.mem_cons_self)) fun y hy => h y (List.mem_cons_of_mem _ hy)
    refine e.mono ?_
    rw [List.length_cons]
    omega
theorem fq01 : Fq 1 ((0, 1) : Int × Int) := ⟨by decide, by unfold Bit; decide, by unfold Bit; decide⟩
theorem take_map {xs : List (Int × Int)} {i : Nat} {d : PyData} (e : (xs.map frD)[i]? = some d) : ∃ x, xs[i]? = some x ∧ d = frD x ∧ xs.take (i + 1) = xs.take i ++ [x] ∧ x ∈ xs := by
  rw [List.getElem?_map] at e
  cases q : xs[i]? with
  | none => rw [q] at e; cases e
  | some x =>
    rw [q] at e
    cases e
    exact ⟨x, rfl, rfl, by rw [List.take_add_one, q]; rfl, List.mem_of_getElem? q⟩
end
/-! from K01f -/
theorem pick_atE {p l : Addr} {many : Int} {R : PyData → Prop} (h : many.natAbs < 2 ^ 64 ∧ ∀ r : Int, 0 ≤ r → r < max 1 many → R (.int r)) : mPick (Fsrc p l) [.raw (.ref p), .dat (.int many)] R := ⟨p, l, many, rfl, rfl, h.1, h.2⟩
theorem pick_at {p l : Addr} {many : Int} {R : PyData → Prop} (hm : many.natAbs < 2 ^ 64) (h : ∀ r : Int, 0 ≤ r → r < max 1 many → R (.int r)) : mPick (Fsrc p l) [.raw (.ref p), .dat (.int many)] R := ⟨p, l, many, rfl, rfl, hm, h⟩
def mGreat (B : Fr) (es : List Ent) (R : PyData → Prop) : Prop := ∃ (p l : Addr) (k : Nat), B = Fsrc p l ∧ es = [.raw (.ref p), .dat (.int k)] ∧ 1 ≤ k ∧ k ≤ 1000 ∧ ∀ n : Int, 0 ≤ n → Bit (4 * k) n → R (.int n)
theorem great_atE {p l : Addr} {z : Int} {R : PyData → Prop} (h : ∃ k : Nat, z = (k : Int) ∧ 1 ≤ k ∧ k ≤ 1000 ∧ ∀ n : Int, 0 ≤ n → Bit (4 * k) n → R (.int n)) : mGreat (Fsrc p l) [.raw (.ref p), .dat (.int z)] R := by
  obtain ⟨k, e, h1, h2, h⟩ := h
  subst e
  exact ⟨p, l, k, rfl, rfl, h1, h2, h⟩
theorem great_at {p l : Addr} {k : Nat} {z : Int} {R : PyData → Prop} (e : z = (k : Int)) (h1 : 1 ≤ k) (h2 : k ≤ 1000) (h : ∀ n : Int, 0 ≤ n → Bit (4 * k) n → R (.int n)) : mGreat (Fsrc p l) [.raw (.ref p), .dat (.int z)] R := ⟨p, l, k, rfl, by rw [e], h1, h2, h⟩
section
variable {P : Program} {w : World} {K : PySem.W.Frag} {mg : Str → Option Value} {base : Heap}
theorem atD {xs : List PyData} {z : Int} {j : Nat} {v : PyData} (e : z = (j : Int)) (h : xs[j]? = some v) : atI xs z = some v := by
  subst e
  exact atI_nat h
theorem abs_eq (a : Int) : (if a < 0 then -a else a) = ((a.natAbs : Nat) : Int) := by split <;> omega
def mLeast (_ : Fr) (es : List Ent) (R : PyData → Prop) : Prop := ∃ p q : Int, es = [.dat (.int p), .dat (.int q)] ∧ q ≠ 0 ∧ Bit 8999 q ∧ R (frD (lst p q))
theorem least_at {p q : Int} {R : PyData → Prop} {B : Fr} (h0 : q ≠ 0) (h9 : Bit 8999 q) (r : R (frD (lst p q))) : mLeast B [.dat (.int p), .dat (.int q)] R := ⟨p, q, rfl, h0, h9, r⟩
theorem Bit.divOk' {n : Nat} {x y z : Int} (h : Bit n y) (h0 : z ≠ 0) (e : z = y) (l : n ≤ 8999) : CDivG x z := by
  subst e
  exact h.divOk h0 l
def mOf (B : Fr) (es : List Ent) (R : PyData → Prop) : Prop := ∃ (p l : Addr) (ds : List PyData), B = Fsrc p l ∧ es = [.raw (.ref p), .dat (.list ds)] ∧ ds ≠ [] ∧ ds.length ≤ 10000 ∧ ∀ d, d ∈ ds → R d
theorem of_atE {p l : Addr} {ds : List PyData} {R : PyData → Prop} (h : ds ≠ [] ∧ ds.length ≤ 10000 ∧ ∀ d, d ∈ ds → R d) : mOf (Fsrc p l) [.raw (.ref p), .dat (.list ds)] R := ⟨p, l, ds, rfl, rfl, h.1, h.2.1, h.2.2⟩
theorem of_at {p l : Addr} {ds : List PyData} {R : PyData → Prop} (h0 : ds ≠ []) (h1 : ds.length ≤ 10000) (h : ∀ d, d ∈ ds → R d) : mOf (Fsrc p l) [.raw (.ref p), .dat (.list ds)] R := ⟨p, l, ds, rfl, rfl, h0, h1, h⟩
def mDrawn (B : Fr) (es : List Ent) (R : PyData → Prop) : Prop := ∃ (p l : Addr), B = Fsrc p l ∧ es = [.raw (.ref p)] ∧ ∀ x : Int × Int, Fq 160 x → R (frD x)
theorem drawn_at {p l : Addr} {R : PyData → Prop} (h : ∀ x : Int × Int, Fq 160 x → R (frD x)) : mDrawn (Fsrc p l) [.raw (.ref p)] R := ⟨p, l, rfl, rfl, h⟩
theorem sgn_bit {k : Nat} {r n : Int} (h0 : 0 ≤ r) (h1 : r < max 1 2) (h : Bit k n) : Bit k ((1 - 2 * r) * n) := by
  have : r = 0 ∨ r = 1 := by omega
  rcases this with e | e
  · subst e; rw [show (1 - 2 * 0 : Int) = 1 by decide, Int.one_mul]; exact h
  · subst e; rw [show (1 - 2 * 1 : Int) = -1 by decide, Int.neg_one_mul]; exact h.neg
theorem one_bit {k : Nat} {n : Int} (h0 : 0 ≤ n) (h : Bit k n) : Bit (k + 1) (1 + n) := by
  unfold Bit at *
  have := Nat.one_le_two_pow (n := k)
  rw [Nat.pow_succ]
  omega
theorem small_bit {n : Nat} {x : Int} (h : x.natAbs < 2 ^ 8) (l : 8 ≤ n) : Bit n x := Bit.mono (n := 8) h l
end
/-! from K01g -/
section
variable {P : Program} {w : World} {K : PySem.W.Frag} {mg : Str → Option Value} {base : Heap}
def mMixed (B : Fr) (es : List Ent) (R : PyData → Prop) : Prop := ∃ (p l : Addr) (ds : List PyData), B = Fsrc p l ∧ es = [.raw (.ref p), .dat (.list ds)] ∧ ds.length ≤ 10000 ∧ ∀ es' : List PyData, es'.Perm ds → R (.list es')
theorem mixed_at {p l : Addr} {ds : List PyData} {R : PyData → Prop} (h1 : ds.length ≤ 10000) (h : ∀ es' : List PyData, es'.Perm ds → R (.list es')) : mMixed (Fsrc p l) [.raw (.ref p), .dat (.list ds)] R := ⟨p, l, ds, rfl, rfl, h1, h⟩
theorem perm_step {da dv : List PyData} {k : Nat} {d : PyData} (h : dv[k]? = some d) : ((da ++ [d]) ++ dv.eraseIdx k).Perm (da ++ dv) := by
  obtain ⟨hk, e⟩ := List.getElem?_eq_some_iff.mp h
  have q : (dv[k] :: dv.eraseIdx k).Perm dv := by
    rw [List.eraseIdx_eq_take_drop_succ]
    have := List.take_append_drop k dv
    conv => rhs; rw [← this, List.drop_eq_getElem_cons hk]
    exact List.perm_middle.symm
  rw [e] at q
  rw [List.append_assoc]
  exact List.Perm.append_left da q
end
/-! from K01i -/
/-! ### what repr asks, told by bounds -/
structure Sh (k m : Nat) (d : PyData) : Prop where
  shw : Shw d
  dep : d.depth ≤ k
  len : d.shown.length ≤ m
theorem Sh.mono {k m k' m' : Nat} {d : PyData} (h : Sh k m d) (a : k ≤ k') (b : m ≤ m') : Sh k' m' d := ⟨h.shw, Nat.le_trans h.dep a, Nat.le_trans h.len b⟩
theorem shownAll_eq : ∀ xs : List PyData, PyData.shownAll xs = xs.map PyData.shown
  | [] => by rw [PyData.shownAll]; rfl
  | x :: xs => by rw [PyData.shownAll, shownAll_eq xs]; rfl
theorem depthAll_le {k : Nat} : ∀ xs : List PyData, (∀ x, x ∈ xs → x.depth ≤ k) → PyData.depthAll xs ≤ k
  | [], _ => by rw [PyData.depthAll]; exact Nat.zero_le _
  | x :: xs, h => by
    rw [PyData.depthAll]
    exact Nat.max_le.mpr ⟨h x List.mem_cons_self, depthAll_le xs fun y hy => h y (List.mem_cons_of_mem _ hy)⟩
theorem piled_le {m : Nat} : ∀ ts : List Str, (∀ t, t ∈ ts → t.length ≤ m) → piled ts ≤ ts.length * (m + 2)
  | [], _ => Nat.zero_le _
  | t :: ts, h => by
    rw [piled_cons, List.length_cons, Nat.succ_mul]
    have h1 := h t List.mem_cons_self
    have h2 := piled_le ts fun y hy => h y (List.mem_cons_of_mem _ hy)
    omega
theorem listText_le (ts : List Str) : (listText ts).length ≤ piled ts + 2 := by
  have hX : (listText ts).length = (textFrom 0 "[" ts).length + 1 := by
    show (textFrom 0 "[" ts ++ "]").length = _
    rw [strLen_append]; rfl
  cases ts with
  | nil => rw [hX]; exact Nat.le_refl _
  | cons t r =>
    have h := textFrom_length_pos r 1 (("[" : Str) ++ (if (0 : Nat) > 0 then ", " else "" : String) ++ t) (Nat.succ_pos 0)
    have e : ((("[" : Str) ++ (if (0 : Nat) > 0 then ", " else "" : String) ++ t)).length = 1 + t.length := by
      rw [strLen_append, strLen_append]; rfl
    rw [hX, show textFrom 0 "[" (t :: r) = textFrom 1 (("[" : Str) ++ (if (0 : Nat) > 0 then ", " else "" : String) ++ t) r from rfl, h, e, piled_cons]
    omega
theorem join_le : ∀ ts : List Str, (Str.join ", " ts).length ≤ piled ts
  | [] => Nat.zero_le _
  | [x] => by
    rw [piled_cons]
    show x.length ≤ _
    omega
  | x :: y :: r => by
    have h := join_le (y :: r)
    show (x ++ ", " ++ Str.join ", " (y :: r)).length ≤ _
    rw [strLen_append, strLen_append, piled_cons]
    have e : (Str.ofString ", ").length = 2 := by decide
    rw [e]
    omega
theorem tupleText_le (ts : List Str) : (tupleText ts).length ≤ piled ts + 3 := by
  have h := join_le ts
  unfold tupleText
  rw [strLen_append, strLen_append]
  have e : (Str.ofString "(").length = 1 := by decide
  have e2 : ∀ b : Bool, (Str.ofString (if b = true then ",)" else ")")).length ≤ 2 := by decide
  rw [e]
  have e3 := e2 (decide (ts.length = 1))
  first
    | (split <;> simp_all <;> omega)
    | omega
theorem Sh.int {i : Int} (h : Bit 12000 i) : Sh 1 13000 (.int i) := by
  refine ⟨?_, ?_, ?_⟩
  · unfold Shw
    exact h.log (by decide)
  · rw [PyData.depth]
    decide
  · rw [PyData.shown]
    have e := int_text_length_le (a := i) (k := 12900) (by decide) (h.log (by decide))
    show (Str.ofString (toString i)).length ≤ _
    rw [PySem.ofString_length]
    omega
theorem Sh.none : Sh 1 13000 .none := ⟨by unfold Shw; trivial, by rw [PyData.depth]; decide, by rw [PyData.shown]; decide⟩
theorem Sh.bool (b : Bool) : Sh 1 13000 (.bool b) := ⟨by unfold Shw; trivial, by rw [PyData.depth]; decide, by rw [PyData.shown]; cases b <;> decide⟩
theorem Sh.list {k m : Nat} {xs : List PyData} (h : ∀ x, x ∈ xs → Sh k m x) : Sh (k + 1) (xs.length * (m + 2) + 2) (.list xs) := by
  refine ⟨?_, ?_, ?_⟩
  · unfold Shw
    exact fun x hx => (h x hx).shw
  · rw [PyData.depth]
    have := depthAll_le xs fun x hx => (h x hx).dep
    omega
  · rw [PyData.shown, shownAll_eq]
    refine Nat.le_trans (listText_le _) ?_
    have := piled_le (m := m) (xs.map PyData.shown) fun t ht => by
      obtain ⟨x, hx, rfl⟩ := List.mem_map.mp ht
      exact (h x hx).len
    rw [List.length_map] at this
    omega
theorem Sh.tuple {k m : Nat} {xs : List PyData} (h : ∀ x, x ∈ xs → Sh k m x) : Sh (k + 1) (xs.length * (m + 2) + 3) (.tuple xs) := by
  refine ⟨?_, ?_, ?_⟩
  · unfold Shw
    exact fun x hx => (h x hx).shw
  · rw [PyData.depth]
    have := depthAll_le xs fun x hx => (h x hx).dep
    omega
  · rw [PyData.shown, shownAll_eq]
    refine Nat.le_trans (tupleText_le _) ?_
    have := piled_le (m := m) (xs.map PyData.shown) fun t ht => by
      obtain ⟨x, hx, rfl⟩ := List.mem_map.mp ht
      exact (h x hx).len
    rw [List.length_map] at this
    omega
theorem Sh.fr {x : Int × Int} (h1 : Bit 12000 x.1) (h2 : Bit 12000 x.2) : Sh 2 27000 (frD x) := by
  refine (Sh.tuple (k := 1) (m := 13000) fun y hy => ?_).mono (by decide) (by show 2 * (13000 + 2) + 3 ≤ 27000; decide)
  rcases List.mem_cons.mp hy with e | hy
  · subst e; exact .int h1
  · rcases List.mem_cons.mp hy with e | hy
    · subst e; exact .int h2
    · cases hy
theorem Fq.sh {n : Nat} {x : Int × Int} (h : Fq n x) (l : n ≤ 12000) : Sh 2 27000 (frD x) := .fr (h.b1.mono l) (h.b2.mono l)
/-- repr of a list of such -/
theorem rp_atE {K : PySem.W.Frag} {Q : PyData → Prop} {xs : List PyData} (h : (∀ x, x ∈ xs → Sh 2 27000 x) ∧ xs.length ≤ 500 ∧ Q (.str (PyData.shown (.list xs)))) : CD (rReprB K) [.list xs] Q := by
  have e := Sh.list h.1
  have e2 : xs.length * (27000 + 2) + 2 ≤ sizeLine := Nat.le_trans (Nat.add_le_add_right (Nat.mul_le_mul_right _ h.2.1) 2) (by decide)
  exact cd_repr ⟨_, rfl, ⟨xs, .inl rfl⟩, e.shw, Nat.le_trans e.dep (by decide), Nat.le_trans e.len e2, h.2.2⟩
theorem rp_at {K : PySem.W.Frag} {Q : PyData → Prop} {xs : List PyData} (h : ∀ x, x ∈ xs → Sh 2 27000 x) (hl : xs.length ≤ 500) (q : Q (.str (PyData.shown (.list xs)))) : CD (rReprB K) [.list xs] Q := by
  have e := Sh.list h
  have e2 : xs.length * (27000 + 2) + 2 ≤ sizeLine := Nat.le_trans (Nat.add_le_add_right (Nat.mul_le_mul_right _ hl) 2) (by decide)
  exact cd_repr ⟨_, rfl, ⟨xs, .inl rfl⟩, e.shw, Nat.le_trans e.dep (by decide), Nat.le_trans e.len e2, q⟩
/-! from K01j -/
theorem bin_at {f : Int × Int → Int × Int → Int × Int} {a b c d : Int} {B : Fr} {R : PyData → Prop} (hx : Fq 4000 (a, b)) (hy : Fq 4000 (c, d)) (r : R (frD (f (a, b) (c, d)))) : mBin f B [.dat (.tuple [.int a, .int b]), .dat (.tuple [.int c, .int d])] R := ⟨(a, b), (c, d), rfl, hx, hy, r⟩
theorem over_at {a b c d : Int} {B : Fr} {R : PyData → Prop} (hx : Fq 4000 (a, b)) (hy : Fq 4000 (c, d)) (r : R (ov (a, b) (c, d))) : mOver B [.dat (.tuple [.int a, .int b]), .dat (.tuple [.int c, .int d])] R := ⟨(a, b), (c, d), rfl, hx, hy, r⟩
theorem less_at {a b c d : Int} {B : Fr} {R : PyData → Prop} (hx : Fq 4000 (a, b)) (hy : Fq 4000 (c, d)) (r : R (.bool (lessF (a, b) (c, d)))) : mLess B [.dat (.tuple [.int a, .int b]), .dat (.tuple [.int c, .int d])] R := ⟨(a, b), (c, d), rfl, hx, hy, r⟩
theorem floor_at {a b : Int} {B : Fr} {R : PyData → Prop} (hx : Fq 4000 (a, b)) (r : R (.int (a.fdiv b))) : mFloor B [.dat (.tuple [.int a, .int b])] R := ⟨(a, b), rfl, hx, r⟩
theorem ceil_at {a b : Int} {B : Fr} {R : PyData → Prop} (hx : Fq 4000 (a, b)) (r : R (.int (-((-a).fdiv b)))) : mCeil B [.dat (.tuple [.int a, .int b])] R := ⟨(a, b), rfl, hx, r⟩
section
variable {P : Program} {w : World} {K : PySem.W.Frag} {mg : Str → Option Value} {base : Heap}
def mPair (_ : Fr) (es : List Ent) (R : PyData → Prop) : Prop := ∃ (v : V) (x y : Int × Int), es = [.raw v, .dat (frD x), .dat (frD y)] ∧ Fq 160 x ∧ Fq 160 y ∧ R (.bool true)
theorem ew_ifv {B : Fr} {env : List Ent} {tt : TT} {ta tb : TE} {Q : PyData → Prop} (d : PyData) (h : TW B env tt fun b => if b = true then EW B env ta (fun z => z = d) else EW B env tb (fun z => z = d)) (q : Q d) : EW B env (tIf tt ta tb) Q := by
  refine ew_if (h.mono fun b hb => ?_)
  cases b with
  | true => exact hb.mono fun z hz => by rw [hz]; exact q
  | false => exact hb.mono fun z hz => by rw [hz]; exact q
theorem neF {α : Type} [DecidableEq α] {A B : α} {p q : Prop} (h : A = B) (r : q) : if (!decide (A = B)) = true then p else q := by
  rw [decide_eq_true h]
  exact iteF r
theorem fdiv_bit {n : Nat} {a b : Int} (h : 0 < b) (ha : Bit n a) : Bit n (a.fdiv b) := by
  have h1 := Int.mul_fdiv_add_fmod a b
  have h2 := Int.fmod_nonneg_of_pos a h
  have h3 := Int.fmod_lt_of_pos a h
  unfold Bit at *
  generalize a.fdiv b = q at *
  generalize a.fmod b = r at *
  by_cases hq : 0 ≤ q
  · have := Int.mul_le_mul_of_nonneg_right (show 1 ≤ b by omega) hq
    omega
  · have h4 := Int.mul_le_mul_of_nonneg_right (show 1 ≤ b by omega) (show 0 ≤ -q - 1 by omega)
    have h5 : b * (-q - 1) = - (b * q) - b := by
      rw [Int.mul_sub, Int.mul_neg, Int.mul_one]
    omega
theorem sh3 {k m : Nat} {a b c : PyData} (ha : Sh k m a) (hb : Sh k m b) (hc : Sh k m c) : ∀ z, z ∈ [a, b, c] → Sh k m z := by
  intro z hz
  rcases List.mem_cons.mp hz with e | hz
  · rw [e]; exact ha
  rcases List.mem_cons.mp hz with e | hz
  · rw [e]; exact hb
  rcases List.mem_cons.mp hz with e | hz
  · rw [e]; exact hc
  · cases hz
theorem isTup : kitB "tuple" "tuple" = some true := by decide +kernel
theorem mi_eq (x y : Int × Int) : mi x y = pl x (0 - y.1, y.2) := by
  unfold mi pl
  show lst (x.1 * y.2 - y.1 * x.2) (x.2 * y.2) = lst (x.1 * y.2 + (0 - y.1) * x.2) (x.2 * y.2)
  rw [Int.zero_sub, Int.neg_mul, ← Int.sub_eq_add_neg]
end
/-! from K01k -/
section
variable {P : Program} {w : World} {K : PySem.W.Frag} {mg : Str → Option Value} {base : Heap}
theorem lst_is {p q g c d : Int} (h : 0 < q) (hg : gc p q = g) (h1 : p = g * c) (h2 : q = g * d) : lst p q = (c, d) := by
  have g0 : g ≠ 0 := by
    have := gc_pos (a := p) (b := q) (by omega)
    omega
  rw [lst_pos h, hg]
  have e1 : p.fdiv g = c := by rw [h1]; exact fdiv_of g0
  have e2 : q.fdiv g = d := by rw [h2]; exact fdiv_of g0
  rw [e1, e2]
theorem lst_flip {p q : Int} (h : q < 0) : lst p q = lst (-p) (-q) := by
  rw [← lst_neg h, lst_pos (show 0 < -q by omega)]
theorem lst_scale {p q b : Int} (h : 0 < q) (hb : 0 < b) : lst (p * b) (q * b) = lst p q := by
  obtain ⟨c, hc⟩ := gc_dvd1 p q
  obtain ⟨d, hd⟩ := gc_dvd2 p q
  have e : gc (p * b) (q * b) = gc p q * b := by
    unfold gc
    rw [Int.natAbs_mul, Int.natAbs_mul, Nat.gcd_mul_right]
    have e : ((b.natAbs : Nat) : Int) = b := by omega
    rw [Int.natCast_mul, e]
  rw [lst_is h rfl hc hd]
  refine lst_is (Int.mul_pos h hb) e ?_ ?_
  · rw [Int.mul_right_comm, ← hc]
  · rw [Int.mul_right_comm, ← hd]
theorem lst_m1 {p q b : Int} (h : 0 < q) (hb : 0 < b) : lst (0 - p * b) (0 - q * b) = lst p q := by
  have := Int.mul_pos h hb
  rw [lst_flip (by omega), Int.zero_sub, Int.zero_sub, Int.neg_neg, Int.neg_neg, lst_scale h hb]
theorem lst_m2 {p q b : Int} (h : 0 < q) (hb : 0 < b) : lst (p * b) (0 - q * b) = lst (0 - p) q := by
  have := Int.mul_pos h hb
  rw [lst_flip (by omega), Int.zero_sub, Int.neg_neg, ← Int.neg_mul, lst_scale h hb, Int.zero_sub]
theorem lst_m3 {q : Int} (h : 0 < q) : lst 0 (0 - q) = (0, 1) := by
  rw [lst_flip (by omega), Int.zero_sub, Int.neg_neg]
  refine lst_is h (g := q) ?_ ?_ ?_
  · unfold gc
    simp
    omega
  · simp
  · rw [Int.mul_one]
theorem lst_m4 {m : Int} (h : 0 < m) : lst m m = (1, 1) := by
  refine lst_is h (g := m) ?_ ?_ ?_
  · unfold gc
    simp
    omega
  · rw [Int.mul_one]
  · rw [Int.mul_one]
def mSrc (B : Fr) (es : List Ent) (R : PyData → Prop) : Prop := ∃ (p l : Addr), B = Fsrc p l ∧ es = [.raw (.ref p)] ∧ R (.bool true)
theorem src_at {p l : Addr} {R : PyData → Prop} (h : R (.bool true)) : mSrc (Fsrc p l) [.raw (.ref p)] R := ⟨p, l, rfl, rfl, h⟩
def frOf (d : PyData) : PyData := match d with
  | .tuple [.int a, .int b] => frD (lst a b)
  | d => d
end
/-! from K01l -/
section
variable {P : Program} {w : World} {K : PySem.W.Frag} {mg : Str → Option Value} {base : Heap}
def IsF (d : PyData) : Prop := ∃ x : Int × Int, Fq 160 x ∧ d = frD x
theorem isF_list : ∀ (ds : List PyData), (∀ d, d ∈ ds → IsF d) → ∃ xs : List (Int × Int), ds = xs.map frD ∧ ∀ x, x ∈ xs → Fq 160 x
  | [], _ => ⟨[], rfl, fun _ h => by cases h⟩
  | d :: ds, h => by
    obtain ⟨xs, e, hx⟩ := isF_list ds fun y hy => h y (List.mem_cons_of_mem _ hy)
    obtain ⟨x, fx, e2⟩ := h d List.mem_cons_self
    refine ⟨x :: xs, by rw [e, e2]; rfl, fun y hy => ?_⟩
    rcases List.mem_cons.mp hy with q | q
    · exact q ▸ fx
    · exact hx y q
def optF (h : Bool) (xs : List (Int × Int)) : PyData := match xs with
  | [] => .none
  | y :: ys => frD (extF h (y :: ys))
theorem low_self (y : Int × Int) : lowF y y = y := by
  unfold lowF
  split <;> rfl
theorem hig_self (y : Int × Int) : higF y y = y := by
  unfold higF
  split <;> rfl
theorem ext_fq (h : Bool) (xs : List (Int × Int)) (hne : xs ≠ []) (hx : ∀ x, x ∈ xs → Fq 160 x) : Fq 160 (extF h xs) := by
  have gen : ∀ (l : List (Int × Int)) (a : Int × Int), Fq 160 a → (∀ x, x ∈ l → Fq 160 x) → Fq 160 (l.foldl (if h = true then higF else lowF) a) := by
    intro l
    induction l with
    | nil => intro a ha _; exact ha
    | cons c l ih =>
      intro a ha hl
      refine ih _ ?_ fun x hx => hl x (List.mem_cons_of_mem _ hx)
      cases h with
      | true =>
        show Fq 160 (higF a c)
        unfold higF
        split
        · exact hl c List.mem_cons_self
        · exact ha
      | false =>
        show Fq 160 (lowF a c)
        unfold lowF
        split
        · exact hl c List.mem_cons_self
        · exact ha
  cases xs with
  | nil => exact absurd rfl hne
  | cons y ys => exact gen _ _ (hx y List.mem_cons_self) hx
theorem ext_app (h : Bool) (y : Int × Int) (ys : List (Int × Int)) (x : Int × Int) : extF h ((y :: ys) ++ [x]) = (if h = true then higF else lowF) (extF h (y :: ys)) x := by
  unfold extF
  rw [List.foldl_append]
  rfl
theorem ext_one (h : Bool) (x : Int × Int) : extF h [x] = x := by
  cases h with
  | true => exact hig_self x
  | false => exact low_self x
theorem ew_low {B : Fr} {env : List Ent} {R : PyData → Prop} {l : List (Int × Int)} {x : Int × Int} (i7 : env[7]? = some (.dat (frD x))) (i5 : env[5]? = some (.dat (optF false l))) (hx : Fq 160 x) (hl : ∀ y, y ∈ l → Fq 160 y) (q : R (optF false (l ++ [x]))) : EW B env (tIf (tOr (tB (tIsN (tVar 5))) (tTest (tOp (rI0 fun i j => V.bl (decide (i < j))) (tOp (rMulA K) (tOp (rIx K) (tVar 7) (tC (V.int 0))) (tOp (rIx K) (tVar 5) (tC (V.int 1)))) (tOp (rMulA K) (tOp (rIx K) (tVar 5) (tC (V.int 0))) (tOp (rIx K) (tVar 7) (tC (V.int 1))))))) (tVar 7) (tVar 5)) R := by
  cases l with
  | nil =>
    refine ew_if (tw_or (tw_B (ew_isN (ew_var i5 ⟨true, rfl, ?_⟩))))
    refine ew_var i7 ?_
    have e : optF false ([] ++ [x]) = frD x := congrArg frD (ext_one false x)
    rw [← e]
    exact q
  | cons y ys =>
    have hv := ext_fq false (y :: ys) (by simp) hl
    have e : optF false ((y :: ys) ++ [x]) = frD (lowF (extF false (y :: ys)) x) := congrArg frD (ext_app false y ys x)
    rw [e] at q
    have i5' : env[5]? = some (.dat (frD (extF false (y :: ys)))) := i5
    generalize extF false (y :: ys) = v at hv q i5'
    refine ew_if (tw_or (tw_B (ew_isN (ew_var i5' ⟨false, rfl, ?_⟩))))
    refine tw_test (ew_op (ew_op (ew_op (ew_var i7 (ew_int (od_ix ⟨_, _, _, rfl, rfl, rfl, ?_⟩))))))
    refine ew_op (ew_var i5' (ew_int (od_ix ⟨_, _, _, rfl, rfl, rfl, ?_⟩)))
    refine od_mulI ⟨_, _, rfl, rfl, hx.b1.mulOk hv.b2 (by decide), ?_⟩
    refine ew_op (ew_op (ew_var i5' (ew_int (od_ix ⟨_, _, _, rfl, rfl, rfl, ?_⟩))))
    refine ew_op (ew_var i7 (ew_int (od_ix ⟨_, _, _, rfl, rfl, rfl, ?_⟩)))
    refine od_mulI ⟨_, _, rfl, rfl, hv.b1.mulOk hx.b2 (by decide), ?_⟩
    refine od_B0 ⟨_, _, rfl, rfl, ?_⟩
    refine ⟨_, rfl, ?_⟩
    by_cases hc : lessF x v = true
    · rw [lowF_t hc] at q
      rw [if_pos (show decide (x.1 * v.2 < v.1 * x.2) = true from hc)]
      exact ew_var i7 q
    · rw [lowF_f hc] at q
      rw [if_neg (show ¬ decide (x.1 * v.2 < v.1 * x.2) = true from hc)]
      exact ew_var i5' q
theorem ew_hig {B : Fr} {env : List Ent} {R : PyData → Prop} {l : List (Int × Int)} {x : Int × Int} (i7 : env[7]? = some (.dat (frD x))) (i6 : env[6]? = some (.dat (optF true l))) (hx : Fq 160 x) (hl : ∀ y, y ∈ l → Fq 160 y) (q : R (optF true (l ++ [x]))) : EW B env (tIf (tOr (tB (tIsN (tVar 6))) (tTest (tOp (rI0 fun i j => V.bl (decide (i < j))) (tOp (rMulA K) (tOp (rIx K) (tVar 6) (tC (V.int 0))) (tOp (rIx K) (tVar 7) (tC (V.int 1)))) (tOp (rMulA K) (tOp (rIx K) (tVar 7) (tC (V.int 0))) (tOp (rIx K) (tVar 6) (tC (V.int 1))))))) (tVar 7) (tVar 6)) R := by
  cases l with
  | nil =>
    refine ew_if (tw_or (tw_B (ew_isN (ew_var i6 ⟨true, rfl, ?_⟩))))
    refine ew_var i7 ?_
    have e : optF true ([] ++ [x]) = frD x := congrArg frD (ext_one true x)
    rw [← e]
    exact q
  | cons y ys =>
    have hv := ext_fq true (y :: ys) (by simp) hl
    have e : optF true ((y :: ys) ++ [x]) = frD (higF (extF true (y :: ys)) x) := congrArg frD (ext_app true y ys x)
    rw [e] at q
    have i6' : env[6]? = some (.dat (frD (extF true (y :: ys)))) := i6
    generalize extF true (y :: ys) = v at hv q i6'
    refine ew_if (tw_or (tw_B (ew_isN (ew_var i6' ⟨false, rfl, ?_⟩))))
    refine tw_test (ew_op (ew_op (ew_op (ew_var i6' (ew_int (od_ix ⟨_, _, _, rfl, rfl, rfl, ?_⟩))))))
    refine ew_op (ew_var i7 (ew_int (od_ix ⟨_, _, _, rfl, rfl, rfl, ?_⟩)))
    refine od_mulI ⟨_, _, rfl, rfl, hv.b1.mulOk hx.b2 (by decide), ?_⟩
    refine ew_op (ew_op (ew_var i7 (ew_int (od_ix ⟨_, _, _, rfl, rfl, rfl, ?_⟩))))
    refine ew_op (ew_var i6' (ew_int (od_ix ⟨_, _, _, rfl, rfl, rfl, ?_⟩)))
    refine od_mulI ⟨_, _, rfl, rfl, hx.b1.mulOk hv.b2 (by decide), ?_⟩
    refine od_B0 ⟨_, _, rfl, rfl, ?_⟩
    refine ⟨_, rfl, ?_⟩
    by_cases hc : lessF v x = true
    · rw [higF_t hc] at q
      rw [if_pos (show decide (v.1 * x.2 < x.1 * v.2) = true from hc)]
      exact ew_var i7 q
    · rw [higF_f hc] at q
      rw [if_neg (show ¬ decide (v.1 * x.2 < x.1 * v.2) = true from hc)]
      exact ew_var i6' q
theorem rt_at {Q : PyData → Prop} {n : Nat} {x : Int × Int} (h : Fq n x) (l : n ≤ 12000) (q : Q (.str (PyData.shown (frD x)))) : CD (rReprB K) [frD x] Q := by
  have e := h.sh l
  exact cd_repr ⟨_, rfl, ⟨_, .inr rfl⟩, e.shw, Nat.le_trans e.dep (by decide), Nat.le_trans e.len (by decide), q⟩
theorem ne_same {a b : Str} {p q : Prop} (h : a = b) (r : q) : OD (rNeA K) (.str a) (.str b) (fun d => ∃ c, d = .bool c ∧ if c = true then p else q) := od_neS' ⟨_, rfl, neF h r⟩
theorem lay_frs : ∀ xs : List (Int × Int), PyData.canLayAll0 (xs.map frD) = true
  | [] => by rw [List.map_nil, PyData.canLayAll0]
  | x :: xs => by
    rw [List.map_cons, PyData.canLayAll0, lay_frs xs]
    simp [frD, PyData.canLay0, PyData.canLayAll0]
theorem shp_frs {xs : List (Int × Int)} (h : (PyData.list (xs.map frD)).depth ≤ 64) : SeqAt.shaped (.list (xs.map frD)) = true := by
  unfold SeqAt.shaped
  rw [PyData.canLay0, lay_frs xs, decide_eq_true h]
  rfl
theorem cut_mem {xs : List PyData} {a b : Option Int} {d : PyData} (h : d ∈ Dl.cutD xs a b) : d ∈ xs := List.mem_of_mem_drop (List.mem_of_mem_take h)
theorem cut_len {xs : List PyData} {k : Int} (h0 : 0 ≤ k) (h1 : k < max 1 3) : (Dl.cutD xs none (some k)).length ≤ 2 := by
  unfold Dl.cutD
  rw [List.length_take]
  have : k = 0 ∨ k = 1 ∨ k = 2 := by omega
  rcases this with e | e | e
  all_goals
    subst e
    show min (HT.sIx xs.length xs.length _ - HT.sIx xs.length 0 none) _ ≤ 2
    refine Nat.le_trans (Nat.min_le_left _ _) ?_
    simp [HT.sIx]
    try omega
end
/-! from K01m -/
section
variable {P : Program} {w : World} {K : PySem.W.Frag} {mg : Str → Option Value} {base : Heap}
def spLaw (K : PySem.W.Frag) : Sp := fun vs H Q _ => ∃ (a : Addr) (ns : List Int), vs = [.ref a] ∧ SqL K H a (ns.map V.int) ∧ ns.length ≤ 63 ∧ ∀ H', Q (.bl true) H'
theorem pair_at {v : V} {x1 x2 y1 y2 : Int} {B : Fr} {R : PyData → Prop} (hx : Fq 160 (x1, x2)) (hy : Fq 160 (y1, y2)) (r : R (.bool true)) : mPair B [.raw v, .dat (.tuple [.int x1, .int x2]), .dat (.tuple [.int y1, .int y2])] R := ⟨v, (x1, x2), (y1, y2), rfl, hx, hy, r⟩
theorem msrc_at {p l : Addr} {R : PyData → Prop} (r : R (.bool true)) : mSrc (Fsrc p l) [.raw (.ref p)] R := ⟨p, l, rfl, rfl, r⟩
theorem tot_at {b : Bool} {B : Fr} {R : PyData → Prop} (r : R (frD (0, 1))) : mTotal B [.dat (sq b [])] R := ⟨b, [], rfl, (fun _ h => by cases h), (by decide), r⟩
theorem tot_atL {B : Fr} {R : PyData → Prop} (r : R (frD (0, 1))) : mTotal B [.dat (.list [])] R := tot_at (b := false) r
theorem tot_atT {B : Fr} {R : PyData → Prop} (r : R (frD (0, 1))) : mTotal B [.dat (.tuple [])] R := tot_at (b := true) r
/-- from the source on, by data -/
theorem law_in {p l a : Addr} {H : Hp} {Q : VK} {ts : TS} {n : Nat} (j : Src p l H) (hQ : ∀ H', Q (.bl true) H')
    (hw : SW (Fsrc p l) ([.non, .raw (.ref p)] ++ List.replicate (n - 2) .non) ts ⟨fun _ => False, fun d => d = .bool true, fun _ => False, fun _ => False⟩) : ts { nx := fun _ H' => Q .non H', rt := Q } ([some (.ref a), some (.ref p)] ++ List.replicate (n - 2) none) H := by
  refine hw (fun _ => none) H (fun _ => False) (fun _ => none) _ H _ ⟨⟨j, fun _ _ e => (nomatch e)⟩, ⟨trivial, rfl, ?_⟩, ?_, fun _ _ e => (nomatch e), fun _ _ _ _ _ e => e, fun _ e => absurd rfl e⟩ ⟨fun _ _ _ _ z _ => z.elim, fun d v H2 e _ k => ?_, fun _ _ _ _ z => z.elim, fun _ _ _ _ z => z.elim⟩
  · induction n - 2 with
    | zero => trivial
    | succ m ih => exact ⟨trivial, ih⟩
  · have e : ∀ m, owned (List.replicate m Ent.non) = [] := fun m => by
      induction m with
      | zero => rfl
      | succ m ih => exact ih
    show (owned (List.replicate (n - 2) Ent.non)).Nodup
    rw [e]
    exact List.nodup_nil
  · subst e
    cases k
    exact hQ H2
theorem law_start {a : Addr} {H : Hp} {Q : VK} {ts : TS} {n : Nat} {ns : List Int} (hS : SqL K H a (ns.map V.int)) (hn : ns.length ≤ 63) (hQ : ∀ H', Q (.bl true) H')
    (hw : ∀ p l, SW (Fsrc p l) ([.non, .raw (.ref p)] ++ List.replicate n .non) ts ⟨fun _ => False, fun d => d = .bool true, fun _ => False, fun _ => False⟩) :
    tSeq (tAsg (tCall (spSource K) [] E0 (tCons (tVar 0) tNil)) (gName 1)) ts { nx := fun _ H' => Q .non H', rt := Q } ([some (.ref a), none] ++ List.replicate n none) H :=
  ⟨_, rfl, a, ns, rfl, hS, hn, fun p l H' _ _ _ sj => law_in (a := a) (n := n + 2) sj hQ (hw p l)⟩
end
section
variable {P : Program} {w : World} {K : PySem.W.Frag} {mg : Str → Option Value} {base : Heap}
end
/-! from K01n -/
theorem law_callG {P : Program} {w : World} {K : PySem.W.Frag} {mg mb : Str → Option Value} {k : Nat} {fa a : Addr} {fd : FuncData} {x : Str} {sp : Sp} {st : Shared} {us : List Value} {ms : List Int}
    (inK : K.In st.heap) (main : st.heap.Ns mainGlobals mg) (bi : st.heap.Ns builtinsNs mb) (boot : ∀ y : Str, y ≠ "__name__" → mb y = bootBuiltins y)
    (lim : st.heap.NoLimit) (dig : NoDig st.heap) (idle : st.gens = #[]) (at0 : st.heap.get? a = some { cls := .type "list", data := .seq us.toArray })
    (wholes : IntsAre us ms) (long : ms.length ≤ sizeLine) (room : Room k callerA)
    (F : ∀ base : Heap, K.In base → base.Ns mainGlobals mg → NoDig base → FnG P w K mg base k fa fd [x] sp)
    (binds : ∀ (s : Shared) (u : Value), BindsTo s fd ⟨[u], []⟩ [(x, u)])
    (told : ∀ H : Hp, SqL K H a (ms.map V.int) → sp [.ref a] H (fun v _ => v = .bl true) E0) :
    codeAny (model P w) callerA (.call (.ref fa) ⟨[.ref a], []⟩) (fun r t => r = .ok (.ret (.bool true)) ∧ OldK st.heap t.heap ∧ t.os = st.os ∧ AllBare t.gens) st := by
  have shut := vals_ints wholes
  have size := wholes.length
  let ob : Obj := { cls := .type "list", data := .seq us.toArray }
  let H : Hp := fun b => if b = a ∧ K.lookup a = none then some (.frz ob (.lst (ms.map V.int))) else none
  have one : ∀ b u, H b = some u → b = a ∧ K.lookup a = none ∧ u = .frz ob (.lst (ms.map V.int)) := fun b u e => by
    by_cases q : b = a ∧ K.lookup a = none
    · have e2 : H b = some (.frz ob (.lst (ms.map V.int))) := if_pos q
      rw [e2] at e
      cases e
      exact ⟨q.1, q.2, rfl⟩
    · have e2 : H b = none := if_neg q
      rw [e2] at e
      cases e
  have stay : ∀ b o, st.heap.get? b = some o → H b = none → (hidT st.heap H).get? b = some o := fun b o e n => hidT_get e n
  have spaces : ∀ b m, st.heap.Ns b m → (hidT st.heap H).Ns b m := fun b m ⟨o, es, ep, e, d, r⟩ => by
    refine ⟨o, es, ep, stay b o e ?_, d, r⟩
    cases q : H b with
    | none => rfl
    | some u =>
      obtain ⟨rfl, _⟩ := one b u q
      rw [at0] at e
      cases e
      have d2 : Data.seq us.toArray _ = Data.dict es ep := d
      cases d2
  have inB : K.In (hidT st.heap H) := fun b o e => stay b o (inK b o e) (by
    cases q : H b with
    | none => rfl
    | some u =>
      obtain ⟨rfl, n, _⟩ := one b u q
      rw [n] at e
      cases e)
  have digB : NoDig (hidT st.heap H) := by
    obtain ⟨mc, d1, d2⟩ := dig
    exact ⟨mc, spaces _ _ d1, d2⟩
  have modB : Mod K mg (hidT st.heap H) := ⟨inB, spaces _ _ main, ⟨mb, spaces _ _ bi, boot⟩, by
    obtain ⟨mc, l1, l2⟩ := lim
    exact ⟨mc, spaces _ _ l1, l2⟩⟩
  have okH : HOk P w H st.heap := fun b u e => by
    obtain ⟨rfl, _, rfl⟩ := one b u e
    exact ⟨at0, by rw [List.length_map]; exact long, us, _, shut, at0⟩
  have env : Env0 P w K mg (hidT st.heap H) callerA [] st H :=
    ⟨rfl, modB, fun b o e => of_hidT e, Nat.le_of_eq (hidT_size _ _), trivial, fun b z => absurd (show b ∈ ([] : List Addr) from z) (by simp), okH, .of_eq idle⟩
  have seen : SqL K H a (ms.map V.int) := by
    cases q : K.lookup a with
    | none => exact .inl (.inr ⟨ob, if_pos ⟨rfl, q⟩⟩)
    | some o =>
      have e := inK a o q
      rw [at0] at e
      cases e
      exact .inr ⟨_, us.toArray, _, q, rfl, rfl, rfl, by rw [List.size_toArray, size]; exact long, by simpa using shut⟩
  refine codeAny_mono ((F _ inB (spaces _ _ main) digB).go callerA [] st H ⟨[.ref a], []⟩ [.ref a] [.ref a] _ _ room rfl env (binds st (.ref a)) (.cons rfl .nil) (told H seen)) fun r t h => ?_
  cases r with
  | error e => exact h.elim
  | ok fl =>
    cases fl with
    | next => exact h.elim
    | brk => exact h.elim
    | cont => exact h.elim
    | ret u =>
      obtain ⟨v, H2, os, bare, un, ok2, rv, q⟩ := h
      have q2 : v = .bl true := q
      subst q2
      obtain rfl : u = Value.bool true := rv
      refine ⟨rfl, OldK.of_keep fun b o e => ?_, os, bare⟩
      cases z : H b with
      | none => exact un.keep b o e z (by intro y; exact absurd (show b ∈ ([] : List Addr) from y) (by simp)) (by simp)
      | some u =>
        obtain ⟨rfl, _, rfl⟩ := one b u z
        have z2 := un.frzs b ob _ z
        obtain ⟨e1, _⟩ := okH b _ z
        obtain ⟨e2, _⟩ := ok2 b _ z2
        rw [e] at e1
        cases e1
        exact e2
theorem walk_ofG {l : PySem.W.OpenLaw} {n k : Nat} {q : Program} {loose : List Str} {XP : (Str → Option Value) → Heap → Prop} {YP : World → Heap → Prop} {d : DefRec} {K : Params → PySem.W.Frag} {sp : PySem.W.Frag → Sp} {x : Str}
    (most : l.most = some n) (few : n ≤ sizeLine) (plainD : d.params.defaults = []) (room : Room k callerA) (hY : ∀ (w : World) (h : Heap), YP w h → (K w.params).In h)
    (F : ∀ (w : World) (mg : Str → Option Value) (fa : Addr) (h : Heap), (K w.params).In h → h.Ns mainGlobals mg → mg d.name = some (.ref fa) → ∃ fd : FuncData, (∀ (s : Shared) (u : Value), BindsTo s fd ⟨[u], []⟩ [(x, u)]) ∧
      ∀ base : Heap, (K w.params).In base → base.Ns mainGlobals mg → NoDig base → FnG l.prog w (K w.params) mg base k fa fd [x] (sp (K w.params)))
    (told : ∀ (K : PySem.W.Frag) (H : Hp) (a : Addr) (ns : List Int), ns.length ≤ n → SqL K H a (ns.map V.int) → sp K [.ref a] H (fun v _ => v = .bl true) E0) :
    PySem.W.WalkO q loose XP YP l.row.toRowW d [] (fun f vs => PySem.call f vs) := by
  refine Att.attach_call most plainD fun w s₀ st mg mb fa o pm cd doc a us ms G Y ho hd hcd named at0 wholes short idle => ?_
  have inK := hY w _ Y
  obtain ⟨fd, bs, each⟩ := F w mg fa _ inK G.T.g named
  exact law_callG inK G.T.g G.T.b G.T.builtins G.T.nolimit G.T.nodigits idle at0 wholes (Nat.le_trans short few) room each bs fun H z => told _ H a ms short z

/-! ### sums of products, divisors, common denominators -/
def dotI (a b : List Int) : Int := (List.zipWith (· * ·) a b).sum
def gcdL (ns : List Int) : Int := ns.foldl gc 0
def lcmI (a b : Int) : Int := ((Nat.lcm a.natAbs b.natAbs : Nat) : Int)
def lcmF (m : Int) (xs : List (Int × Int)) : Int := xs.foldl (fun m x => lcmI m x.2) m
def lcmL (xs : List (Int × Int)) : Int := lcmF 1 xs
def overN (L : Int) (xs : List (Int × Int)) : List Int := xs.map fun x => x.1 * L.fdiv x.2
def wholeN (xs : List (Int × Int)) : List Int := overN (lcmL xs) xs
theorem gc_one (n : Int) : gc 1 n = 1 := by
  unfold gc
  rw [show (1 : Int).natAbs = 1 from rfl, Nat.gcd_one_left]
  rfl
theorem gcdF_one : ∀ ns : List Int, ns.foldl gc 1 = 1
  | [] => rfl
  | n :: ns => by rw [List.foldl_cons, gc_one]; exact gcdF_one ns
theorem gcdL_take {ns : List Int} {i : Nat} (h : gcdL (ns.take i) = 1) : gcdL ns = 1 := by
  have e : ns = ns.take i ++ ns.drop i := (List.take_append_drop i ns).symm
  unfold gcdL at *
  rw [e, List.foldl_append, h]
  exact gcdF_one _
theorem gc_bit' {n : Nat} {a b : Int} (ha : Bit n a) (hb : Bit n b) : Bit n (gc a b) := by
  by_cases h : b = 0
  · subst h
    unfold gc Bit at *
    rw [show (0 : Int).natAbs = 0 from rfl, Nat.gcd_zero_right]
    omega
  · exact gc_bit h hb
theorem Bit.zero (n : Nat) : Bit n 0 := by
  unfold Bit
  exact Nat.two_pow_pos n
theorem gcdF_bit {n : Nat} : ∀ (ns : List Int) (g : Int), Bit n g → (∀ x, x ∈ ns → Bit n x) → Bit n (ns.foldl gc g)
  | [], g, h, _ => h
  | x :: ns, g, h, hn => gcdF_bit ns _ (gc_bit' h (hn x List.mem_cons_self)) fun y hy => hn y (List.mem_cons_of_mem _ hy)
theorem gcdL_bit {n : Nat} {ns : List Int} (h : ∀ x, x ∈ ns → Bit n x) : Bit n (gcdL ns) := gcdF_bit ns 0 (Bit.zero n) h
theorem gc_nonneg (a b : Int) : 0 ≤ gc a b := Int.natCast_nonneg _
theorem gcdF_dvd : ∀ (ns : List Int) (g : Int), (ns.foldl gc g ∣ g) ∧ ∀ x, x ∈ ns → ns.foldl gc g ∣ x
  | [], g => ⟨Int.dvd_refl _, fun _ h => by cases h⟩
  | n :: ns, g => by
    have e := gcdF_dvd ns (gc g n)
    refine ⟨Int.dvd_trans e.1 (gc_dvd1 g n), fun x hx => ?_⟩
    rcases List.mem_cons.mp hx with h | h
    · subst h; exact Int.dvd_trans e.1 (gc_dvd2 g x)
    · exact e.2 x h
theorem gcdL_dvd {ns : List Int} {x : Int} (h : x ∈ ns) : gcdL ns ∣ x := (gcdF_dvd ns 0).2 x h
theorem gcdF_nonneg : ∀ (ns : List Int) (g : Int), 0 ≤ g → 0 ≤ ns.foldl gc g
  | [], g, h => h
  | n :: ns, g, _ => gcdF_nonneg ns _ (gc_nonneg g n)
theorem gcdL_pos {ns : List Int} {x : Int} (h : x ∈ ns) (h0 : x ≠ 0) : 0 < gcdL ns := by
  have a := gcdF_nonneg ns 0 (Int.le_refl 0)
  have b := gcdL_dvd h
  rcases Int.lt_or_eq_of_le a with c | c
  · exact c
  · have z : gcdL ns = 0 := c.symm
    rw [z] at b
    exact absurd (Int.zero_dvd.mp b) h0
theorem lcmI_pos {a b : Int} (ha : 0 < a) (hb : 0 < b) : 0 < lcmI a b := by
  unfold lcmI
  have := Nat.lcm_pos (show 0 < a.natAbs by omega) (show 0 < b.natAbs by omega)
  omega
theorem lcmI_dvd1 (a b : Int) : a ∣ lcmI a b := by
  unfold lcmI
  exact Int.natAbs_dvd.mp (Int.ofNat_dvd.mpr (Nat.dvd_lcm_left _ _))
theorem lcmI_dvd2 (a b : Int) : b ∣ lcmI a b := by
  unfold lcmI
  exact Int.natAbs_dvd.mp (Int.ofNat_dvd.mpr (Nat.dvd_lcm_right _ _))
theorem lcmI_bit {n m : Nat} {a b : Int} (ha : Bit n a) (hb : Bit m b) : Bit (n + m) (lcmI a b) := by
  unfold Bit lcmI at *
  rw [Int.natAbs_natCast, Nat.pow_add]
  refine Nat.lt_of_le_of_lt ?_ (Nat.mul_lt_mul'' ha hb)
  unfold Nat.lcm
  exact Nat.div_le_self _ _
theorem lcmF_all : ∀ (xs : List (Int × Int)) (m : Int), 0 < m → (∀ x, x ∈ xs → 0 < x.2) → 0 < lcmF m xs ∧ m ∣ lcmF m xs ∧ ∀ x, x ∈ xs → x.2 ∣ lcmF m xs
  | [], m, h, _ => ⟨h, Int.dvd_refl _, fun _ h => by cases h⟩
  | x :: xs, m, h, hx => by
    have e := lcmF_all xs (lcmI m x.2) (lcmI_pos h (hx x List.mem_cons_self)) fun y hy => hx y (List.mem_cons_of_mem _ hy)
    refine ⟨e.1, Int.dvd_trans (lcmI_dvd1 m x.2) e.2.1, fun y hy => ?_⟩
    rcases List.mem_cons.mp hy with q | q
    · subst q; exact Int.dvd_trans (lcmI_dvd2 m y.2) e.2.1
    · exact e.2.2 y q
theorem lcmL_pos {xs : List (Int × Int)} (h : ∀ x, x ∈ xs → 0 < x.2) : 0 < lcmL xs := (lcmF_all xs 1 (by decide) h).1
theorem lcmL_dvd {xs : List (Int × Int)} (h : ∀ x, x ∈ xs → 0 < x.2) {x : Int × Int} (hx : x ∈ xs) : x.2 ∣ lcmL xs := (lcmF_all xs 1 (by decide) h).2.2 x hx
theorem lcmF_bit {k : Nat} : ∀ (xs : List (Int × Int)) (m : Int) (n : Nat), Bit n m → (∀ x, x ∈ xs → Bit k x.2) → Bit (n + k * xs.length) (lcmF m xs)
  | [], m, n, h, _ => h
  | x :: xs, m, n, h, hx => by
    have e := lcmF_bit xs (lcmI m x.2) (n + k) (lcmI_bit h (hx x List.mem_cons_self)) fun y hy => hx y (List.mem_cons_of_mem _ hy)
    refine e.mono ?_
    rw [List.length_cons, Nat.mul_add]
    omega
theorem bit1 : Bit 1 1 := by unfold Bit; decide
theorem lcmL_bit {k : Nat} {xs : List (Int × Int)} (h : ∀ x, x ∈ xs → Bit k x.2) : Bit (1 + k * xs.length) (lcmL xs) := lcmF_bit xs 1 1 bit1 h
theorem fdiv_eq {L q : Int} (hq : 0 < q) (h : q ∣ L) : L = q * L.fdiv q := by
  obtain ⟨c, rfl⟩ := h
  rw [fdiv_of (by omega)]
theorem fdiv_bit' {n : Nat} {L q : Int} (hq : 0 < q) (h : q ∣ L) (hb : Bit n L) : Bit n (L.fdiv q) := by
  have e := fdiv_eq hq h
  unfold Bit at *
  refine Nat.lt_of_le_of_lt ?_ hb
  generalize L.fdiv q = c at *
  rw [e, Int.natAbs_mul]
  exact Nat.le_mul_of_pos_left _ (by omega)
theorem overN_bit {k n : Nat} {L : Int} {xs : List (Int × Int)} (hL : Bit n L) (h0 : ∀ x, x ∈ xs → 0 < x.2) (hd : ∀ x, x ∈ xs → x.2 ∣ L) (h : ∀ x, x ∈ xs → Bit k x.1) : ∀ y, y ∈ overN L xs → Bit (k + n) y := fun y hy => by
  obtain ⟨x, hx, rfl⟩ := List.mem_map.mp hy
  exact (h x hx).mul (fdiv_bit' (h0 x hx) (hd x hx) hL)
theorem sum_bit {k : Nat} : ∀ (zs : List Int), (∀ z, z ∈ zs → Bit k z) → Bit (k + zs.length) zs.sum
  | [], _ => Bit.zero _
  | z :: zs, h => by
    have e := sum_bit zs fun y hy => h y (List.mem_cons_of_mem _ hy)
    rw [List.sum_cons, List.length_cons]
    exact Bit.add ((h z List.mem_cons_self).mono (Nat.le_add_right _ _)) e
theorem dot_bit {m n : Nat} {a b : List Int} (ha : ∀ x, x ∈ a → Bit m x) (hb : ∀ x, x ∈ b → Bit n x) : Bit (m + n + a.length) (dotI a b) := by
  refine (sum_bit (k := m + n) (List.zipWith (· * ·) a b) fun z hz => ?_).mono ?_
  · obtain ⟨i, hi⟩ := List.getElem?_of_mem hz
    rw [List.getElem?_zipWith] at hi
    cases e1 : a[i]? with
    | none => rw [e1] at hi; cases b[i]? <;> cases hi
    | some x =>
      cases e2 : b[i]? with
      | none => rw [e1, e2] at hi; cases hi
      | some y =>
        rw [e1, e2] at hi
        cases hi
        exact (ha x (List.mem_of_getElem? e1)).mul (hb y (List.mem_of_getElem? e2))
  · rw [List.length_zipWith]
    omega
/-! made plain -/
def anyI (a : List Int) : Bool := a.any fun n => n != 0
def plainR (a : List Int) (b : Int) : List Int × Int := if anyI a = true then (a.map (·.fdiv (gcdL (a ++ [b]))), b.fdiv (gcdL (a ++ [b]))) else (a, if 0 ≤ b then 0 else -1)
theorem anyI_ex {a : List Int} (h : anyI a = true) : ∃ x, x ∈ a ∧ x ≠ 0 := by
  unfold anyI at h
  obtain ⟨x, hx, h⟩ := List.any_eq_true.mp h
  exact ⟨x, hx, by simpa using h⟩
theorem anyI_no {a : List Int} (h : ¬ anyI a = true) : ∀ x, x ∈ a → x = 0 := fun x hx => by
  by_cases z : x = 0
  · exact z
  · exact absurd (List.any_eq_true.mpr ⟨x, hx, by simpa using z⟩) h
theorem gcdAB_pos {a : List Int} {b : Int} (h : anyI a = true) : 0 < gcdL (a ++ [b]) := by
  obtain ⟨x, hx, h0⟩ := anyI_ex h
  exact gcdL_pos (List.mem_append_left _ hx) h0
theorem fdiv_dvd_bit {n : Nat} {x g : Int} (hg : 0 < g) (hd : g ∣ x) (h : Bit n x) : Bit n (x.fdiv g) := fdiv_bit' hg hd h
theorem plainR_bit {n : Nat} {a : List Int} {b : Int} (hn : 1 ≤ n) (ha : ∀ x, x ∈ a → Bit n x) (hb : Bit n b) : (∀ x, x ∈ (plainR a b).1 → Bit n x) ∧ Bit n (plainR a b).2 ∧ (plainR a b).1.length = a.length := by
  unfold plainR
  split
  · rename_i h
    have g := gcdAB_pos (b := b) h
    refine ⟨fun x hx => ?_, fdiv_dvd_bit g (gcdL_dvd (List.mem_append_right _ (List.mem_singleton.mpr rfl))) hb, List.length_map _⟩
    obtain ⟨y, hy, rfl⟩ := List.mem_map.mp hx
    exact fdiv_dvd_bit g (gcdL_dvd (List.mem_append_left _ hy)) (ha y hy)
  · refine ⟨ha, ?_, rfl⟩
    show Bit n (if 0 ≤ b then 0 else -1)
    split
    · exact Bit.zero _
    · exact Bit.mono (n := 1) (show (1 : Nat) < 2 ^ 1 by decide) hn
/-! what a row reaches -/
def pl' (x y : Int × Int) : Int × Int := lst (x.1 * y.2 + y.1 * x.2) (x.2 * y.2)
theorem lst_mk {p q : Int} (h : 0 < q) : ∃ g, 0 < g ∧ p = (lst p q).1 * g ∧ q = (lst p q).2 * g ∧ 0 < (lst p q).2 := by
  obtain ⟨c, hc⟩ := gc_dvd1 p q
  obtain ⟨d, hd⟩ := gc_dvd2 p q
  have g := gc_pos (a := p) (b := q) (by omega)
  refine ⟨gc p q, g, ?_, ?_, ?_⟩
  · rw [lst_is h rfl hc hd, Int.mul_comm]; exact hc
  · rw [lst_is h rfl hc hd, Int.mul_comm]; exact hd
  · rw [lst_is h rfl hc hd]
    exact pos_right g (by rw [← hd]; exact h)
theorem pl_lst {a b c d : Int} (hb : 0 < b) (hd : 0 < d) : pl' (lst a b) (lst c d) = lst (a * d + c * b) (b * d) := by
  obtain ⟨g, g0, ea, eb, b0⟩ := lst_mk (p := a) hb
  obtain ⟨f, f0, ec, ed, d0⟩ := lst_mk (p := c) hd
  unfold pl'
  generalize lst a b = x at *
  generalize lst c d = y at *
  have e1 : a * d + c * b = (x.1 * y.2 + y.1 * x.2) * (g * f) := by rw [ea, eb, ec, ed]; grind
  have e2 : b * d = (x.2 * y.2) * (g * f) := by rw [eb, ed]; grind
  rw [e1, e2, lst_scale (Int.mul_pos b0 d0) (Int.mul_pos g0 f0)]
theorem lst_zero {L : Int} (h : 0 < L) : lst 0 L = (0, 1) := by
  refine lst_is h (g := L) ?_ ?_ ?_
  · unfold gc
    simp
    omega
  · simp
  · rw [Int.mul_one]
def reachF (f : Int × Int) (l : List (Int × Int × Int)) : Int × Int := l.foldl (fun f z => pl' f (lst (z.1 * z.2.1) z.2.2)) f
theorem reach_eq : ∀ (a : List Int) (xs : List (Int × Int)) (L s : Int), 0 < L → (∀ x, x ∈ xs → 0 < x.2) → (∀ x, x ∈ xs → x.2 ∣ L) → reachF (lst s L) (List.zip a xs) = lst (s + dotI a (overN L xs)) L
  | [], xs, L, s, _, _, _ => by
    show lst s L = lst (s + 0) L
    rw [Int.add_zero]
  | c :: a, [], L, s, _, _, _ => by
    show lst s L = lst (s + 0) L
    rw [Int.add_zero]
  | c :: a, x :: xs, L, s, hL, h0, hd => by
    have hq := h0 x List.mem_cons_self
    have e := fdiv_eq hq (hd x List.mem_cons_self)
    show reachF (pl' (lst s L) (lst (c * x.1) x.2)) (List.zip a xs) = lst (s + (c * (x.1 * L.fdiv x.2) + dotI a (overN L xs))) L
    rw [pl_lst hL hq]
    have e1 : s * x.2 + c * x.1 * L = (s + c * (x.1 * L.fdiv x.2)) * x.2 := by
      generalize L.fdiv x.2 = k at *
      subst e
      grind
    rw [e1, lst_scale hL hq, reach_eq a xs L _ hL (fun y hy => h0 y (List.mem_cons_of_mem _ hy)) (fun y hy => hd y (List.mem_cons_of_mem _ hy)), Int.add_assoc]
def reachR (a : List Int) (xs : List (Int × Int)) : Int × Int := lst (dotI a (wholeN xs)) (lcmL xs)
def slackR (a : List Int) (b : Int) (xs : List (Int × Int)) : Int × Int := lst (b * lcmL xs - dotI a (wholeN xs)) (lcmL xs)
theorem reach_is {a : List Int} {xs : List (Int × Int)} (h : ∀ x, x ∈ xs → 0 < x.2) : reachF (0, 1) (List.zip a xs) = reachR a xs := by
  have hL := lcmL_pos h
  have e := reach_eq a xs (lcmL xs) 0 hL h fun x hx => lcmL_dvd h hx
  rw [lst_zero hL, Int.zero_add] at e
  exact e
theorem over_is {a : List Int} {b : Int} {xs : List (Int × Int)} (h : ∀ x, x ∈ xs → 0 < x.2) : lst (b * (reachR a xs).2 - (reachR a xs).1) (reachR a xs).2 = slackR a b xs := by
  unfold reachR slackR
  have hL := lcmL_pos h
  obtain ⟨g, g0, e1, e2, b0⟩ := lst_mk (p := dotI a (wholeN xs)) hL
  generalize lst (dotI a (wholeN xs)) (lcmL xs) = x at *
  have e3 : b * lcmL xs - dotI a (wholeN xs) = (b * x.2 - x.1) * g := by rw [e1, e2]; grind
  rw [e3]
  conv => rhs; rw [e2]
  rw [lst_scale b0 g0]
theorem lst_sign {p q : Int} (h : 0 < q) : ((lst p q).1 = 0 ↔ p = 0) ∧ ((lst p q).1 < 0 ↔ p < 0) := by
  obtain ⟨g, g0, e1, e2, b0⟩ := lst_mk (p := p) h
  generalize (lst p q).1 = y at *
  subst e1
  constructor
  · constructor
    · intro z; rw [z, Int.zero_mul]
    · intro z
      rcases Int.mul_eq_zero.mp z with q | q
      · exact q
      · omega
  · constructor
    · intro z; exact Int.mul_neg_of_neg_of_pos z g0
    · intro z
      by_cases c : y < 0
      · exact c
      · have := Int.mul_nonneg (show 0 ≤ y by omega) (show 0 ≤ g by omega)
        omega
def tightB (a : List Int) (b : Int) (xs : List (Int × Int)) : Bool := decide (dotI a (wholeN xs) = b * lcmL xs)
def brokenB (a : List Int) (b : Int) (xs : List (Int × Int)) : Bool := decide (b * lcmL xs < dotI a (wholeN xs))
theorem tight_is {a : List Int} {b : Int} {xs : List (Int × Int)} (h : ∀ x, x ∈ xs → 0 < x.2) : tightB a b xs = decide ((slackR a b xs).1 = 0) := by
  unfold tightB slackR
  rw [decide_eq_decide, (lst_sign (lcmL_pos h)).1]
  omega
theorem broken_is {a : List Int} {b : Int} {xs : List (Int × Int)} (h : ∀ x, x ∈ xs → 0 < x.2) : brokenB a b xs = decide ((slackR a b xs).1 < 0) := by
  unfold brokenB slackR
  rw [decide_eq_decide, (lst_sign (lcmL_pos h)).2]
  omega
theorem dot_zero : ∀ (a b : List Int), (∀ x, x ∈ a → x = 0) → dotI a b = 0
  | [], _, _ => rfl
  | _ :: _, [], _ => rfl
  | x :: a, y :: b, h => by
    show x * y + dotI a b = 0
    rw [h x List.mem_cons_self, dot_zero a b fun z hz => h z (List.mem_cons_of_mem _ hz), Int.zero_mul, Int.zero_add]
theorem dot_scale {g : Int} : ∀ (a b : List Int), dotI (a.map (g * ·)) b = g * dotI a b
  | [], _ => by simp [dotI]
  | _ :: _, [] => by simp [dotI]
  | x :: a, y :: b => by
    show g * x * y + dotI (a.map (g * ·)) b = g * (x * y + dotI a b)
    rw [dot_scale a b]
    grind
theorem broken_plain {a : List Int} {b : Int} {xs : List (Int × Int)} (h : ∀ x, x ∈ xs → 0 < x.2) : brokenB (plainR a b).1 (plainR a b).2 xs = brokenB a b xs := by
  have hL := lcmL_pos h
  unfold plainR
  split
  · rename_i ha
    have g := gcdAB_pos (b := b) ha
    have hd : ∀ x, x ∈ a ++ [b] → gcdL (a ++ [b]) ∣ x := fun x hx => gcdL_dvd hx
    generalize gcdL (a ++ [b]) = k at *
    have ea : a = (a.map (·.fdiv k)).map (k * ·) := by
      rw [List.map_map]
      conv => lhs; rw [← List.map_id a]
      refine List.map_congr_left fun x hx => ?_
      exact fdiv_eq g (hd x (List.mem_append_left _ hx))
    have eb : b = k * b.fdiv k := fdiv_eq g (hd b (List.mem_append_right _ (List.mem_singleton.mpr rfl)))
    unfold brokenB
    rw [decide_eq_decide]
    show b.fdiv k * lcmL xs < dotI (a.map (·.fdiv k)) (wholeN xs) ↔ b * lcmL xs < dotI a (wholeN xs)
    have ed : dotI a (wholeN xs) = k * dotI (a.map (·.fdiv k)) (wholeN xs) := by
      conv => lhs; rw [ea]
      exact dot_scale _ _
    rw [ed]
    generalize b.fdiv k = c at *
    rw [eb, Int.mul_assoc]
    exact (Int.mul_lt_mul_left g).symm
  · rename_i ha
    have hz := anyI_no ha
    unfold brokenB
    rw [decide_eq_decide]
    show (if 0 ≤ b then 0 else -1) * lcmL xs < dotI a (wholeN xs) ↔ _
    rw [dot_zero a _ hz]
    split
    · rename_i hb
      have := Int.mul_nonneg hb (show 0 ≤ lcmL xs by omega)
      omega
    · rename_i hb
      have := Int.mul_neg_of_neg_of_pos (show b < 0 by omega) hL
      omega
/-! the row of fractions -/
theorem lcm_way {m q : Int} (hm : 0 < m) (hq : 0 < q) : m * q.fdiv (gcdL [m, q]) = lcmI m q := by
  have e : gcdL [m, q] = gc m q := by
    show gc (gc 0 m) q = gc m q
    unfold gc
    simp
  rw [e]
  have g := gc_pos (a := m) (b := q) (by omega)
  have eq := fdiv_eq g (gc_dvd2 m q)
  generalize q.fdiv (gc m q) = c at *
  have h1 : ((Nat.gcd m.natAbs q.natAbs : Nat) : Int) * lcmI m q = m * q := by
    unfold lcmI
    rw [← Int.natCast_mul, Nat.gcd_mul_lcm, Int.natCast_mul]
    have a1 : ((m.natAbs : Nat) : Int) = m := by omega
    have a2 : ((q.natAbs : Nat) : Int) = q := by omega
    rw [a1, a2]
  have h2 : gc m q * lcmI m q = gc m q * (m * c) := by
    show ((Nat.gcd m.natAbs q.natAbs : Nat) : Int) * lcmI m q = _
    rw [h1]
    conv => lhs; rw [eq]
    grind
  exact (Int.eq_of_mul_eq_mul_left (by omega) h2).symm
def rowOfR (xs : List (Int × Int)) (y : Int × Int) : List Int × Int := plainR (overN (lcmL (xs ++ [y])) xs) (y.1 * (lcmL (xs ++ [y])).fdiv y.2)


/-! ### made plain once more -/
theorem gcdF_great : ∀ (ns : List Int) (g d : Int), d ∣ g → (∀ x, x ∈ ns → d ∣ x) → d ∣ ns.foldl gc g
  | [], g, d, h, _ => h
  | x :: ns, g, d, h, hn => by
    refine gcdF_great ns (gc g x) d ?_ fun y hy => hn y (List.mem_cons_of_mem _ hy)
    have hx := hn x List.mem_cons_self
    unfold gc
    exact Int.natAbs_dvd.mp (Int.ofNat_dvd.mpr (Nat.dvd_gcd (Int.natAbs_dvd_natAbs.mpr h) (Int.natAbs_dvd_natAbs.mpr hx)))
theorem gcdL_great {ns : List Int} {d : Int} (h : ∀ x, x ∈ ns → d ∣ x) : d ∣ gcdL ns := gcdF_great ns 0 d (Int.dvd_zero d) h
theorem gcdL_quot {ns : List Int} (h : 0 < gcdL ns) : gcdL (ns.map (·.fdiv (gcdL ns))) = 1 := by
  have hd : ∀ x, x ∈ ns → gcdL ns ∣ x := fun x hx => gcdL_dvd hx
  have n0 : 0 ≤ gcdL (ns.map (·.fdiv (gcdL ns))) := gcdF_nonneg _ 0 (Int.le_refl 0)
  have hq : ∀ y, y ∈ ns.map (·.fdiv (gcdL ns)) → gcdL (ns.map (·.fdiv (gcdL ns))) ∣ y := fun y hy => gcdL_dvd hy
  have all : ∀ x, x ∈ ns → gcdL ns * gcdL (ns.map (·.fdiv (gcdL ns))) ∣ x := fun x hx => by
    have e := fdiv_eq h (hd x hx)
    have e2 := hq _ (List.mem_map.mpr ⟨x, hx, rfl⟩)
    generalize gcdL (ns.map (·.fdiv (gcdL ns))) = k at *
    obtain ⟨c, hc⟩ := e2
    exact ⟨c, by rw [Int.mul_assoc, ← hc]; exact e⟩
  have big := gcdL_great all
  generalize gcdL (ns.map (·.fdiv (gcdL ns))) = k at *
  generalize gcdL ns = g at *
  obtain ⟨c, hc⟩ := big
  have e : g * (k * c) = g * 1 := by rw [← Int.mul_assoc, ← hc, Int.mul_one]
  have e2 : k * c = 1 := Int.eq_of_mul_eq_mul_left (by omega) e
  have : k ∣ 1 := ⟨c, e2.symm⟩
  have := Int.le_of_dvd (by decide) this
  have : k ≠ 0 := fun z => by rw [z, Int.zero_mul] at e2; cases e2
  omega
theorem fdiv_one (x : Int) : x.fdiv 1 = x := by
  have := fdiv_of (g := 1) (c := x) (by decide)
  rw [Int.one_mul] at this
  exact this
theorem anyI_quot {a : List Int} {g : Int} (h : 0 < g) (hd : ∀ x, x ∈ a → g ∣ x) (ha : anyI a = true) : anyI (a.map (·.fdiv g)) = true := by
  obtain ⟨x, hx, h0⟩ := anyI_ex ha
  unfold anyI
  refine List.any_eq_true.mpr ⟨_, List.mem_map.mpr ⟨x, hx, rfl⟩, ?_⟩
  have e := fdiv_eq h (hd x hx)
  have : x.fdiv g ≠ 0 := fun z => by rw [z, Int.mul_zero] at e; exact h0 e
  simpa using this
theorem plainR_idem (a : List Int) (b : Int) : plainR (plainR a b).1 (plainR a b).2 = plainR a b := by
  by_cases ha : anyI a = true
  · have e : plainR a b = (a.map (·.fdiv (gcdL (a ++ [b]))), b.fdiv (gcdL (a ++ [b]))) := by unfold plainR; rw [if_pos ha]
    have g0 := gcdAB_pos (b := b) ha
    rw [e]
    have e2 : a.map (·.fdiv (gcdL (a ++ [b]))) ++ [b.fdiv (gcdL (a ++ [b]))] = (a ++ [b]).map (·.fdiv (gcdL (a ++ [b]))) := by rw [List.map_append]; rfl
    show plainR (a.map (·.fdiv (gcdL (a ++ [b])))) (b.fdiv (gcdL (a ++ [b]))) = _
    unfold plainR
    rw [if_pos (anyI_quot g0 (fun x hx => gcdL_dvd (List.mem_append_left _ hx)) ha), e2, gcdL_quot g0, List.map_map, fdiv_one]
    have : ((fun x => Int.fdiv x 1) ∘ fun x => Int.fdiv x (gcdL (a ++ [b]))) = fun x => Int.fdiv x (gcdL (a ++ [b])) := by
      funext x
      exact fdiv_one _
    rw [this]
  · have e : plainR a b = (a, if 0 ≤ b then 0 else -1) := by unfold plainR; rw [if_neg ha]
    rw [e]
    show plainR a (if 0 ≤ b then 0 else -1) = _
    unfold plainR
    rw [if_neg ha]
    by_cases hb : 0 ≤ b
    · rw [if_pos hb]; rfl
    · rw [if_neg hb]; rfl
theorem zero_rep {a : List Int} {n : Nat} (h : ¬ anyI a = true) (hl : a.length = n) : a = List.replicate n 0 := List.eq_replicate_iff.mpr ⟨hl, anyI_no h⟩
theorem any_rep (n : Nat) : anyI (List.replicate n 0) = false := by
  unfold anyI
  rw [List.any_replicate]
  simp
theorem plain_any {a : List Int} {b : Int} : anyI (plainR a b).1 = anyI a := by
  by_cases ha : anyI a = true
  · have g0 := gcdAB_pos (b := b) ha
    have e : plainR a b = (a.map (·.fdiv (gcdL (a ++ [b]))), b.fdiv (gcdL (a ++ [b]))) := by unfold plainR; rw [if_pos ha]
    rw [e, ha]
    exact anyI_quot g0 (fun x hx => gcdL_dvd (List.mem_append_left _ hx)) ha
  · unfold plainR
    rw [if_neg ha]
def alwaysB (a : List Int) (b : Int) : Bool := !anyI a && decide (0 ≤ b)
def neverB (a : List Int) (b : Int) : Bool := !anyI a && decide (b < 0)
theorem always_is {a : List Int} {b : Int} {n : Nat} (hl : a.length = n) : decide (plainR a b = (List.replicate n 0, 0)) = alwaysB a b := by
  unfold alwaysB
  by_cases ha : anyI a = true
  · rw [ha]
    have : plainR a b ≠ (List.replicate n 0, 0) := fun z => by
      have := plain_any (a := a) (b := b)
      rw [z, any_rep, ha] at this
      cases this
    rw [decide_eq_false this]
    rfl
  · have e := zero_rep ha hl
    have e2 : plainR a b = (a, if 0 ≤ b then 0 else -1) := by unfold plainR; rw [if_neg ha]
    rw [e2, Bool.eq_false_iff.mpr ha, ← e]
    by_cases hb : 0 ≤ b <;> simp [hb]
theorem never_is {a : List Int} {b : Int} {n : Nat} (hl : a.length = n) : decide (plainR a b = (List.replicate n 0, -1)) = neverB a b := by
  unfold neverB
  by_cases ha : anyI a = true
  · rw [ha]
    have : plainR a b ≠ (List.replicate n 0, -1) := fun z => by
      have := plain_any (a := a) (b := b)
      rw [z, any_rep, ha] at this
      cases this
    rw [decide_eq_false this]
    rfl
  · have e := zero_rep ha hl
    have e2 : plainR a b = (a, if 0 ≤ b then 0 else -1) := by unfold plainR; rw [if_neg ha]
    rw [e2, Bool.eq_false_iff.mpr ha, ← e]
    by_cases hb : 0 ≤ b
    · simp [hb]
    · simp [hb]
      omega
theorem plainR_len (a : List Int) (b : Int) : (plainR a b).1.length = a.length := by
  unfold plainR
  split <;> simp

end Ev
end
section
set_option Elab.async false
set_option linter.all false
set_option maxRecDepth 100000
namespace Ev
open PySem L2 PySem.Spec PyProof.Rows Dl RZ
/-! ### what may be compared -/
theorem clA {xs : List PyData} (h : ∀ x, x ∈ xs → PyData.canLay0 x = true) : PyData.canLayAll0 xs = true := by
  induction xs with
  | nil => rw [PyData.canLayAll0]
  | cons x xs ih =>
    rw [PyData.canLayAll0, h x List.mem_cons_self, ih fun y hy => h y (List.mem_cons_of_mem _ hy)]
    rfl
theorem cl_tup {xs : List PyData} (h : ∀ x, x ∈ xs → PyData.canLay0 x = true) : PyData.canLay0 (.tuple xs) = true := by
  rw [PyData.canLay0]
  exact clA h
theorem cl_lst {xs : List PyData} (h : ∀ x, x ∈ xs → PyData.canLay0 x = true) : PyData.canLay0 (.list xs) = true := by
  rw [PyData.canLay0]
  exact clA h
theorem cl_int (i : Int) : PyData.canLay0 (.int i) = true := by rw [PyData.canLay0]
theorem shp {k m : Nat} {d : PyData} (h : Sh k m d) (c : PyData.canLay0 d = true) (l : k ≤ 64) : SeqAt.shaped d = true := by
  unfold SeqAt.shaped
  rw [c, decide_eq_true (Nat.le_trans h.dep l)]
  rfl
theorem cl_ints {a : List Int} : ∀ x, x ∈ a.map PyData.int → PyData.canLay0 x = true := fun x hx => by
  obtain ⟨i, _, rfl⟩ := List.mem_map.mp hx
  exact cl_int i
theorem sh_ints {n : Nat} {a : List Int} (h : ∀ x, x ∈ a → Bit n x) (l : n ≤ 12000) : ∀ x, x ∈ a.map PyData.int → Sh 1 13000 x := fun x hx => by
  obtain ⟨i, hi, rfl⟩ := List.mem_map.mp hx
  exact Sh.int ((h i hi).mono l)
/-! equal data -/
mutual
theorem eqv_refl : ∀ d : PyData, PyData.canLay0 d = true → PyData.eqv d d = true
  | .none, _ => by rw [PyData.eqv]
  | .bool b, _ => by rw [PyData.eqv]; simp
  | .int i, _ => by rw [PyData.eqv]; simp
  | .str x, _ => by rw [PyData.eqv]; simp
  | .list xs, h => by rw [PyData.eqv]; rw [PyData.canLay0] at h; exact eqvA_refl xs h
  | .tuple xs, h => by rw [PyData.eqv]; rw [PyData.canLay0] at h; exact eqvA_refl xs h
  | .dict _, h => by rw [PyData.canLay0] at h; cases h
theorem eqvA_refl : ∀ xs : List PyData, PyData.canLayAll0 xs = true → PyData.eqvAll xs xs = true
  | [], _ => by rw [PyData.eqvAll]
  | x :: xs, h => by
    rw [PyData.canLayAll0] at h
    have h2 := Bool.and_eq_true_iff.mp h
    rw [PyData.eqvAll, eqv_refl x h2.1, eqvA_refl xs h2.2]
    rfl
end
theorem eqv_tuple {xs ys : List PyData} : PyData.eqv (.tuple xs) (.tuple ys) = PyData.eqvAll xs ys := by rw [PyData.eqv]
theorem eqv_list {xs ys : List PyData} : PyData.eqv (.list xs) (.list ys) = PyData.eqvAll xs ys := by rw [PyData.eqv]
theorem eqv_int {i j : Int} : PyData.eqv (.int i) (.int j) = (i == j) := by rw [PyData.eqv]
theorem eqvA_cons {x y : PyData} {xs ys : List PyData} : PyData.eqvAll (x :: xs) (y :: ys) = (PyData.eqv x y && PyData.eqvAll xs ys) := by rw [PyData.eqvAll]
theorem eqvA_nil : PyData.eqvAll [] [] = true := by rw [PyData.eqvAll]
theorem eqvA_nc {y : PyData} {ys : List PyData} : PyData.eqvAll [] (y :: ys) = false := by rw [PyData.eqvAll]
theorem eqvA_cn {y : PyData} {ys : List PyData} : PyData.eqvAll (y :: ys) [] = false := by rw [PyData.eqvAll]
theorem eqvA_ints : ∀ {a b : List Int}, PyData.eqvAll (a.map PyData.int) (b.map PyData.int) = decide (a = b)
  | [], [] => by rw [List.map_nil, eqvA_nil]; rfl
  | [], y :: b => by rw [List.map_nil, List.map_cons, eqvA_nc]; rfl
  | x :: a, [] => by rw [List.map_nil, List.map_cons, eqvA_cn]; rfl
  | x :: a, y :: b => by
    rw [List.map_cons, List.map_cons, eqvA_cons, eqv_int, eqvA_ints]
    by_cases h : x = y <;> by_cases g : a = b <;> simp [h, g]
/-! drawn ints -/
def IsI (n : Nat) (d : PyData) : Prop := ∃ x : Int, Bit n x ∧ d = .int x
theorem isI_list {n : Nat} : ∀ (ds : List PyData), (∀ d, d ∈ ds → IsI n d) → ∃ xs : List Int, ds = xs.map PyData.int ∧ ∀ x, x ∈ xs → Bit n x
  | [], _ => ⟨[], rfl, fun _ h => by cases h⟩
  | d :: ds, h => by
    obtain ⟨xs, e, hx⟩ := isI_list ds fun y hy => h y (List.mem_cons_of_mem _ hy)
    obtain ⟨x, fx, e2⟩ := h d List.mem_cons_self
    refine ⟨x :: xs, by rw [e, e2]; rfl, fun y hy => ?_⟩
    rcases List.mem_cons.mp hy with q | q
    · exact q ▸ fx
    · exact hx y q
def nzF (d : PyData) : Option PyData := match d with
  | .int x => if x != 0 then some (.int x) else none
  | _ => none
theorem nz_is : ∀ a : List Int, (a.map PyData.int).filterMap nzF = (a.filter (· != 0)).map PyData.int
  | [] => rfl
  | x :: a => by
    rw [List.map_cons, List.filterMap_cons, List.filter_cons]
    unfold nzF
    by_cases h : (x != 0) = true
    · simp only [h, if_true, List.map_cons]
      rw [← nz_is a]
      rfl
    · simp only [h]
      exact nz_is a
theorem nz_any (a : List Int) : (a.filter (· != 0)) = [] ↔ ¬ anyI a = true := by
  unfold anyI
  rw [List.filter_eq_nil_iff, List.any_eq_true]
  constructor
  · rintro h ⟨x, hx, h2⟩
    exact h x hx h2
  · intro h x hx h2
    exact h ⟨x, hx, h2⟩
theorem odI_eq {K : PySem.W.Frag} {x y : PyData} {Q : PyData → Prop} (b : Bool) (hx : SeqAt.shaped x = true) (hy : SeqAt.shaped y = true) (e : PyData.eqv x y = b) (q : Q (.bool b)) : OD (rEqA K) x y Q := od_eqD' ⟨hx, hy, by rw [e]; exact q⟩
theorem ge_mul {n m : Nat} {i j : Int} (h : Bit n i) (g : Bit m j) (l : n + m ≤ 900000 := by decide) : CMulA i j := h.mulOk g l
theorem sm {x : Int} (h : x.natAbs < 2 ^ 8 := by omega) : Bit 8 x := h
theorem pl_eq : pl' = pl := rfl
/-! what the law's own reckoning comes to -/
theorem zip_snoc {α β : Type} : ∀ {a : List α} {b : List β} {i : Nat} {x : α} {y : β}, a[i]? = some x → b[i]? = some y → List.zip (a.take (i + 1)) (b.take (i + 1)) = List.zip (a.take i) (b.take i) ++ [(x, y)]
  | [], _, _, _, _, h, _ => by simp at h
  | _ :: _, [], _, _, _, _, h => by simp at h
  | x :: a, y :: b, 0, u, v, h, g => by simp at h g; subst h; subst g; rfl
  | x :: a, y :: b, i + 1, u, v, h, g => by
    have := zip_snoc (a := a) (b := b) (i := i) (x := u) (y := v) (by simpa using h) (by simpa using g)
    simp only [List.take_succ_cons, List.zip_cons_cons, this]
    rfl
theorem reach_step {a : List Int} {xs : List (Int × Int)} {i : Nat} {c : Int} {x : Int × Int} (h : ∀ x, x ∈ xs → 0 < x.2) (ha : a[i]? = some c) (hx : xs[i]? = some x) : pl (reachR (a.take i) (xs.take i)) (lst (c * x.1) x.2) = reachR (a.take (i + 1)) (xs.take (i + 1)) := by
  have hp : ∀ j, ∀ y, y ∈ xs.take j → 0 < y.2 := fun j y hy => h y (List.mem_of_mem_take hy)
  rw [← reach_is (hp i), ← reach_is (hp (i + 1)), zip_snoc ha hx]
  unfold reachF
  rw [List.foldl_append]
  rfl
theorem lcm_step {xs : List (Int × Int)} {i : Nat} {x : Int × Int} (h : ∀ x, x ∈ xs → 0 < x.2) (hx : xs[i]? = some x) : lcmL (xs.take i) * x.2.fdiv (gcdL [lcmL (xs.take i), x.2]) = lcmL (xs.take (i + 1)) := by
  have hp : ∀ y, y ∈ xs.take i → 0 < y.2 := fun y hy => h y (List.mem_of_mem_take hy)
  rw [lcm_way (lcmL_pos hp) (h x (List.mem_of_getElem? hx)), List.take_add_one, hx]
  unfold lcmL lcmF
  rw [List.foldl_append]
  rfl
end Ev
end
section
set_option Elab.async false
set_option linter.all false
set_option maxRecDepth 100000
namespace Ev
open PySem L2 PySem.Spec PyProof.Rows Dl RZ

/-! ### rows and points moved -/
theorem gc_scale {g a b : Int} (h : 0 < g) : gc (g * a) (g * b) = g * gc a b := by
  unfold gc
  rw [Int.natAbs_mul, Int.natAbs_mul, Nat.gcd_mul_left, Int.natCast_mul]
  have : ((g.natAbs : Nat) : Int) = g := by omega
  rw [this]
theorem gcdF_scale {g : Int} (h : 0 < g) : ∀ (ns : List Int) (k : Int), (ns.map (g * ·)).foldl gc (g * k) = g * ns.foldl gc k
  | [], _ => rfl
  | n :: ns, k => by
    rw [List.map_cons, List.foldl_cons, List.foldl_cons, gc_scale h]
    exact gcdF_scale h ns _
theorem gcdL_scale {g : Int} (h : 0 < g) (ns : List Int) : gcdL (ns.map (g * ·)) = g * gcdL ns := by
  have := gcdF_scale h ns 0
  rw [Int.mul_zero] at this
  exact this
theorem anyI_scale {g : Int} (h : 0 < g) (a : List Int) : anyI (a.map (g * ·)) = anyI a := by
  unfold anyI
  rw [List.any_map]
  congr 1
  funext x
  show (g * x != 0) = (x != 0)
  by_cases z : x = 0
  · subst z; rw [Int.mul_zero]
  · have : g * x ≠ 0 := Int.mul_ne_zero (by omega) z
    rw [bne_iff_ne.mpr this, bne_iff_ne.mpr z]
theorem fdiv_scale {g x k : Int} (h : 0 < g) (hk : 0 < k) (hd : k ∣ x) : (g * x).fdiv (g * k) = x.fdiv k := by
  obtain ⟨c, rfl⟩ := hd
  rw [← Int.mul_assoc, fdiv_of (Int.ne_of_gt (Int.mul_pos h hk)), fdiv_of (by omega)]
theorem plainR_scale {g : Int} (h : 0 < g) (a : List Int) (b : Int) : plainR (a.map (g * ·)) (g * b) = plainR a b := by
  unfold plainR
  rw [anyI_scale h]
  have e : a.map (g * ·) ++ [g * b] = (a ++ [b]).map (g * ·) := by rw [List.map_append]; rfl
  rw [e, gcdL_scale h]
  by_cases ha : anyI a = true
  · rw [if_pos ha, if_pos ha]
    have g0 := gcdAB_pos (b := b) ha
    have hd : ∀ x, x ∈ a ++ [b] → gcdL (a ++ [b]) ∣ x := fun x hx => gcdL_dvd hx
    rw [fdiv_scale h g0 (hd b (List.mem_append_right _ (List.mem_singleton.mpr rfl))), List.map_map]
    congr 1
    refine List.map_congr_left fun x hx => ?_
    exact fdiv_scale h g0 (hd x (List.mem_append_left _ hx))
  · rw [if_neg ha, if_neg ha]
    have z := anyI_no ha
    have e1 : a.map (g * ·) = a := by
      conv => rhs; rw [← List.map_id a]
      refine List.map_congr_left fun x hx => ?_
      rw [z x hx, Int.mul_zero]
      rfl
    rw [e1]
    congr 1
    by_cases hb : 0 ≤ b
    · rw [if_pos hb, if_pos (Int.mul_nonneg (by omega) hb)]
    · rw [if_neg hb, if_neg (show ¬ 0 ≤ g * b by have := Int.mul_neg_of_pos_of_neg h (show b < 0 by omega); omega)]
theorem lst_idem {p q : Int} (h : 0 < q) : lst (lst p q).1 (lst p q).2 = lst p q := by
  obtain ⟨g, g0, e1, e2, b0⟩ := lst_mk (p := p) h
  generalize hz : lst p q = z at *
  have e : lst p q = lst z.1 z.2 := by
    rw [e1, e2, lst_scale b0 g0]
  exact e.symm.trans hz
/-- told without a common divisor -/
def Nf (x : Int × Int) : Prop := lst x.1 x.2 = x
theorem lst_nf {p q : Int} (h : 0 < q) : Nf (lst p q) := lst_idem h
theorem lcmI_one {q : Int} (h : 0 < q) : lcmI 1 q = q := by
  unfold lcmI
  rw [show (1 : Int).natAbs = 1 from rfl]
  have : Nat.lcm 1 q.natAbs = q.natAbs := by simp [Nat.lcm]
  rw [this]
  omega
def onesF (a : List Int) : List (Int × Int) := a.map fun x => (x, 1)
theorem lcmF_ones : ∀ (a : List Int) (y : Int × Int), 0 < y.2 → lcmF 1 (onesF a ++ [y]) = y.2
  | [], y, h => lcmI_one h
  | x :: a, y, h => by
    show lcmF (lcmI 1 1) (onesF a ++ [y]) = y.2
    rw [lcmI_one (by decide)]
    exact lcmF_ones a y h
theorem lcmL_ones {a : List Int} {y : Int × Int} (h : 0 < y.2) : lcmL (onesF a ++ [y]) = y.2 := lcmF_ones a y h
theorem fdiv_self {q : Int} (h : 0 < q) : q.fdiv q = 1 := by
  have := fdiv_of (g := q) (c := 1) (by omega)
  rw [Int.mul_one] at this
  exact this
theorem rowOf_ones {a : List Int} {y : Int × Int} (h : 0 < y.2) : rowOfR (onesF a) y = plainR (a.map (· * y.2)) y.1 := by
  unfold rowOfR
  rw [lcmL_ones h, fdiv_self h, Int.mul_one]
  congr 1
  unfold overN onesF
  rw [List.map_map]
  refine List.map_congr_left fun x _ => ?_
  show x * y.2.fdiv 1 = x * y.2
  rw [fdiv_one]
/-- a row by a made fraction -/
theorem rowOf_lst {a : List Int} {p q : Int} (h : 0 < q) : rowOfR (onesF a) (lst p q) = plainR (a.map (· * q)) p := by
  obtain ⟨g, g0, e1, e2, b0⟩ := lst_mk (p := p) h
  rw [rowOf_ones b0]
  generalize lst p q = z at *
  rw [show plainR (a.map (· * q)) p = plainR ((a.map (· * z.2)).map (g * ·)) (g * z.1) by
    congr 1
    · rw [List.map_map]
      refine List.map_congr_left fun x _ => ?_
      show x * q = g * (x * z.2)
      rw [e2]; grind
    · rw [e1, Int.mul_comm]]
  exact (plainR_scale g0 _ _).symm
/-! sums -/
theorem dot_nil (b : List Int) : dotI [] b = 0 := rfl
theorem dot_cons (x y : Int) (a b : List Int) : dotI (x :: a) (y :: b) = x * y + dotI a b := rfl
theorem dot_add : ∀ (a u v : List Int), u.length = v.length → dotI a (List.zipWith (· + ·) u v) = dotI a u + dotI a v
  | [], _, _, _ => rfl
  | _ :: _, [], [], _ => rfl
  | x :: a, y :: u, z :: v, h => by
    show x * (y + z) + dotI a (List.zipWith (· + ·) u v) = x * y + dotI a u + (x * z + dotI a v)
    rw [dot_add a u v (by simpa using h)]
    grind
theorem dot_scaleR {g : Int} : ∀ (a b : List Int), dotI a (b.map (g * ·)) = g * dotI a b
  | [], _ => by simp [dotI]
  | _ :: _, [] => by simp [dotI]
  | x :: a, y :: b => by
    show x * (g * y) + dotI a (b.map (g * ·)) = g * (x * y + dotI a b)
    rw [dot_scaleR a b]
    grind
theorem dot_app : ∀ (a b u v : List Int), a.length = u.length → dotI (a ++ b) (u ++ v) = dotI a u + dotI b v
  | [], b, [], v, _ => by rw [dot_nil, Int.zero_add]; rfl
  | x :: a, b, y :: u, v, h => by
    show x * y + dotI (a ++ b) (u ++ v) = x * y + dotI a u + dotI b v
    rw [dot_app a b u v (by simpa using h)]
    omega
theorem dot_neg2 : ∀ (a u : List Int), dotI (a.map (- ·)) (u.map (- ·)) = dotI a u
  | [], _ => rfl
  | _ :: _, [] => rfl
  | x :: a, y :: u => by
    show -x * -y + dotI (a.map (- ·)) (u.map (- ·)) = x * y + dotI a u
    rw [dot_neg2 a u, Int.neg_mul_neg]
theorem sum_perm {l m : List Int} (h : l.Perm m) : l.sum = m.sum := by
  induction h with
  | nil => rfl
  | cons x _ ih => rw [List.sum_cons, List.sum_cons, ih]
  | swap x y l => rw [List.sum_cons, List.sum_cons, List.sum_cons, List.sum_cons]; omega
  | trans _ _ a b => exact a.trans b
theorem dot_pick (o : List Nat) (a u : List Int) : dotI (o.map (a.getD · 0)) (o.map (u.getD · 0)) = (o.map fun k => a.getD k 0 * u.getD k 0).sum := by
  induction o with
  | nil => rfl
  | cons k o ih =>
    rw [List.map_cons, List.map_cons, List.map_cons, dot_cons, List.sum_cons, ih]
theorem dot_range : ∀ (a u : List Int), a.length = u.length → dotI a u = ((List.range a.length).map fun k => a.getD k 0 * u.getD k 0).sum
  | [], [], _ => rfl
  | x :: a, y :: u, h => by
    rw [dot_cons, dot_range a u (by simpa using h), List.length_cons, List.range_succ_eq_map, List.map_cons, List.sum_cons, List.map_map]
    rfl
theorem dot_perm {o : List Nat} {a u : List Int} (hl : a.length = u.length) (h : o.Perm (List.range a.length)) : dotI (o.map (a.getD · 0)) (o.map (u.getD · 0)) = dotI a u := by
  rw [dot_pick, dot_range a u hl]
  exact sum_perm (h.map _)
/-! which points a row bars, by any denominator for all -/
theorem overN_mul {L c : Int} : ∀ {xs : List (Int × Int)}, (∀ x, x ∈ xs → 0 < x.2) → (∀ x, x ∈ xs → x.2 ∣ L) → overN (c * L) xs = (overN L xs).map (c * ·)
  | [], _, _ => rfl
  | x :: xs, h, hd => by
    have e := fdiv_eq (h x List.mem_cons_self) (hd x List.mem_cons_self)
    show x.1 * (c * L).fdiv x.2 :: overN (c * L) xs = c * (x.1 * L.fdiv x.2) :: (overN L xs).map (c * ·)
    rw [overN_mul (fun y hy => h y (List.mem_cons_of_mem _ hy)) fun y hy => hd y (List.mem_cons_of_mem _ hy)]
    congr 1
    have e2 : (c * L).fdiv x.2 = c * L.fdiv x.2 := by
      generalize L.fdiv x.2 = k at *
      rw [e, show c * (x.2 * k) = x.2 * (c * k) by grind]
      exact fdiv_of (by have := h x List.mem_cons_self; omega)
    rw [e2]
    grind
theorem lcmF_least {M : Int} : ∀ (xs : List (Int × Int)) (m : Int), m ∣ M → (∀ x, x ∈ xs → x.2 ∣ M) → lcmF m xs ∣ M
  | [], _, h, _ => h
  | x :: xs, m, h, hx => by
    refine lcmF_least xs (lcmI m x.2) ?_ fun y hy => hx y (List.mem_cons_of_mem _ hy)
    unfold lcmI
    exact Int.natAbs_dvd.mp (Int.natAbs_dvd_natAbs.mp (by rw [Int.natAbs_natCast]; simpa using Nat.lcm_dvd (Int.natAbs_dvd_natAbs.mpr h) (Int.natAbs_dvd_natAbs.mpr (hx x List.mem_cons_self))))
theorem broken_at {a : List Int} {b M : Int} {xs : List (Int × Int)} (h : ∀ x, x ∈ xs → 0 < x.2) (hM : 0 < M) (hd : ∀ x, x ∈ xs → x.2 ∣ M) : brokenB a b xs = decide (b * M < dotI a (overN M xs)) := by
  have hL := lcmL_pos h
  obtain ⟨c, hc⟩ := lcmF_least xs 1 (Int.one_dvd M) hd
  have hc' : M = c * lcmL xs := by rw [Int.mul_comm]; exact hc
  have c0 : 0 < c := by
    refine pos_right hL (d := c) ?_
    rw [Int.mul_comm, ← hc']
    exact hM
  unfold brokenB
  rw [decide_eq_decide, hc', overN_mul h fun x hx => lcmL_dvd h hx, dot_scaleR]
  show b * lcmL xs < dotI a (wholeN xs) ↔ b * (c * lcmL xs) < c * dotI a (wholeN xs)
  rw [show b * (c * lcmL xs) = c * (b * lcmL xs) by grind]
  exact (Int.mul_lt_mul_left c0).symm
def plF (x y : List (Int × Int)) : List (Int × Int) := List.zipWith pl' x y
theorem lst_dvd {p q M : Int} (h : 0 < q) (hd : q ∣ M) : (lst p q).2 ∣ M := by
  obtain ⟨g, g0, e1, e2, b0⟩ := lst_mk (p := p) h
  generalize lst p q = z at *
  exact Int.dvd_trans ⟨g, e2⟩ hd
theorem lst_over {p q M : Int} (h : 0 < q) (hd : q ∣ M) : (lst p q).1 * M.fdiv (lst p q).2 = p * M.fdiv q := by
  obtain ⟨g, g0, e1, e2, b0⟩ := lst_mk (p := p) h
  have hd2 := lst_dvd (p := p) h hd
  generalize lst p q = z at *
  have e3 := fdiv_eq h hd
  have e4 := fdiv_eq b0 hd2
  generalize M.fdiv q = k at *
  generalize M.fdiv z.2 = j at *
  have : z.2 * (g * k) = z.2 * j := by rw [← e4, e3, e2]; grind
  have := Int.eq_of_mul_eq_mul_left (by omega) this
  rw [e1, ← this]
  grind
theorem overN_pl {M : Int} : ∀ {x y : List (Int × Int)}, (∀ z, z ∈ x → 0 < z.2) → (∀ z, z ∈ y → 0 < z.2) → (∀ z, z ∈ x → ∀ u, u ∈ y → z.2 * u.2 ∣ M) → overN M (plF x y) = List.zipWith (· + ·) (overN M x) (overN M y)
  | [], _, _, _, _ => rfl
  | _ :: _, [], _, _, _ => rfl
  | z :: x, u :: y, hx, hy, hd => by
    have z0 := hx z List.mem_cons_self
    have u0 := hy u List.mem_cons_self
    have d0 := hd z List.mem_cons_self u List.mem_cons_self
    show (pl' z u).1 * M.fdiv (pl' z u).2 :: overN M (plF x y) = (z.1 * M.fdiv z.2 + u.1 * M.fdiv u.2) :: List.zipWith (· + ·) (overN M x) (overN M y)
    rw [overN_pl (fun v hv => hx v (List.mem_cons_of_mem _ hv)) (fun v hv => hy v (List.mem_cons_of_mem _ hv)) fun v hv w hw => hd v (List.mem_cons_of_mem _ hv) w (List.mem_cons_of_mem _ hw)]
    congr 1
    unfold pl'
    rw [lst_over (Int.mul_pos z0 u0) d0]
    have e := fdiv_eq (Int.mul_pos z0 u0) d0
    have e1 := fdiv_eq z0 (Int.dvd_trans (Int.dvd_mul_right _ _) d0)
    have e2 := fdiv_eq u0 (Int.dvd_trans (Int.dvd_mul_left _ _) d0)
    generalize M.fdiv (z.2 * u.2) = k at *
    generalize M.fdiv z.2 = j at *
    generalize M.fdiv u.2 = l at *
    have j0 : z.2 * j = z.2 * (u.2 * k) := by rw [← e1, e]; grind
    have l0 : u.2 * l = u.2 * (z.2 * k) := by rw [← e2, e]; grind
    have j1 := Int.eq_of_mul_eq_mul_left (by omega) j0
    have l1 := Int.eq_of_mul_eq_mul_left (by omega) l0
    rw [j1, l1]
    grind
theorem overN_len (M : Int) (xs : List (Int × Int)) : (overN M xs).length = xs.length := List.length_map _
theorem plF_pos {x y : List (Int × Int)} (hx : ∀ z, z ∈ x → 0 < z.2) (hy : ∀ z, z ∈ y → 0 < z.2) : ∀ z, z ∈ plF x y → 0 < z.2 ∧ ∃ u, u ∈ x ∧ ∃ v, v ∈ y ∧ z = pl' u v := fun z hz => by
  obtain ⟨i, hi⟩ := List.getElem?_of_mem hz
  unfold plF at hi
  rw [List.getElem?_zipWith] at hi
  cases e1 : x[i]? with
  | none => rw [e1] at hi; cases y[i]? <;> cases hi
  | some u =>
    cases e2 : y[i]? with
    | none => rw [e1, e2] at hi; cases hi
    | some v =>
      rw [e1, e2] at hi
      cases hi
      have u0 := hx u (List.mem_of_getElem? e1)
      have v0 := hy v (List.mem_of_getElem? e2)
      obtain ⟨_, _, _, _, b0⟩ := lst_mk (p := u.1 * v.2 + v.1 * u.2) (Int.mul_pos u0 v0)
      exact ⟨b0, u, List.mem_of_getElem? e1, v, List.mem_of_getElem? e2, rfl⟩
/-- (shifted) -/
theorem broken_shift {a : List Int} {b : Int} {x p : List (Int × Int)} (hx : ∀ z, z ∈ x → 0 < z.2) (hp : ∀ z, z ∈ p → 0 < z.2) (hl : x.length = p.length) :
    brokenB (a.map (· * lcmL p)) (b * lcmL p + dotI a (wholeN p)) (plF x p) = brokenB a b x := by
  have Lx := lcmL_pos hx
  have Lp := lcmL_pos hp
  have dx : ∀ z, z ∈ x → z.2 ∣ lcmL x := fun z hz => lcmL_dvd hx hz
  have dp : ∀ z, z ∈ p → z.2 ∣ lcmL p := fun z hz => lcmL_dvd hp hz
  have dxp : ∀ z, z ∈ x → ∀ u, u ∈ p → z.2 * u.2 ∣ lcmL x * lcmL p := fun z hz u hu => Int.mul_dvd_mul (dx z hz) (dp u hu)
  have M0 := Int.mul_pos Lx Lp
  rw [broken_at (fun z hz => (plF_pos hx hp z hz).1) M0 (fun z hz => by
    obtain ⟨_, u, hu, v, hv, rfl⟩ := plF_pos hx hp z hz
    exact lst_dvd (Int.mul_pos (hx u hu) (hp v hv)) (dxp u hu v hv)), broken_at hx M0 fun z hz => Int.dvd_trans (dx z hz) (Int.dvd_mul_right _ _)]
  rw [overN_pl hx hp dxp, decide_eq_decide]
  have e1 : overN (lcmL x * lcmL p) p = (wholeN p).map (lcmL x * ·) := overN_mul hp dp
  have e2 : a.map (· * lcmL p) = a.map (lcmL p * ·) := List.map_congr_left fun z _ => Int.mul_comm _ _
  rw [e2, dot_scale, dot_add _ _ _ (by rw [overN_len, overN_len]; exact hl), e1, dot_scaleR]
  generalize dotI a (overN (lcmL x * lcmL p) x) = S
  generalize dotI a (wholeN p) = D
  generalize lcmL x = u at *
  generalize lcmL p = v at *
  have e3 : (b * v + D) * (u * v) = v * (b * (u * v)) + v * (u * D) := by grind
  have e4 : v * (S + u * D) = v * S + v * (u * D) := by grind
  rw [e3, e4]
  constructor
  · intro h
    have : v * (b * (u * v)) < v * S := by omega
    exact (Int.mul_lt_mul_left Lp).mp this
  · intro h
    have := (Int.mul_lt_mul_left Lp).mpr h
    omega
def tm' (x y : Int × Int) : Int × Int := lst (x.1 * y.1) (x.2 * y.2)
/-- (scaled) -/
theorem broken_scale {a : List Int} {b : Int} {x : List (Int × Int)} {t : Int × Int} (hx : ∀ z, z ∈ x → 0 < z.2) (t1 : 0 < t.1) (t2 : 0 < t.2) :
    brokenB (a.map (· * t.2)) (b * t.1) (x.map (tm' t)) = brokenB a b x := by
  have Lx := lcmL_pos hx
  have dx : ∀ z, z ∈ x → z.2 ∣ lcmL x := fun z hz => lcmL_dvd hx hz
  have M0 := Int.mul_pos t2 Lx
  have dm : ∀ z, z ∈ x → t.2 * z.2 ∣ t.2 * lcmL x := fun z hz => Int.mul_dvd_mul (Int.dvd_refl _) (dx z hz)
  rw [broken_at (fun z hz => by
    obtain ⟨u, hu, rfl⟩ := List.mem_map.mp hz
    exact (lst_mk (Int.mul_pos t2 (hx u hu))).elim fun _ q => q.2.2.2) M0 (fun z hz => by
    obtain ⟨u, hu, rfl⟩ := List.mem_map.mp hz
    exact lst_dvd (Int.mul_pos t2 (hx u hu)) (dm u hu)), broken_at hx Lx dx, decide_eq_decide]
  have e1 : overN (t.2 * lcmL x) (x.map (tm' t)) = (overN (lcmL x) x).map (t.1 * ·) := by
    unfold overN
    rw [List.map_map, List.map_map]
    refine List.map_congr_left fun z hz => ?_
    show (tm' t z).1 * (t.2 * lcmL x).fdiv (tm' t z).2 = t.1 * (z.1 * (lcmL x).fdiv z.2)
    unfold tm'
    rw [lst_over (Int.mul_pos t2 (hx z hz)) (dm z hz), fdiv_scale t2 (hx z hz) (dx z hz)]
    grind
  have e2 : a.map (· * t.2) = a.map (t.2 * ·) := List.map_congr_left fun z _ => Int.mul_comm _ _
  rw [e1, e2, dot_scale, dot_scaleR]
  have e3 : b * t.1 * (t.2 * lcmL x) = t.2 * (t.1 * (b * lcmL x)) := by grind
  rw [e3]
  constructor
  · intro h
    exact (Int.mul_lt_mul_left t1).mp ((Int.mul_lt_mul_left t2).mp h)
  · intro h
    exact (Int.mul_lt_mul_left t2).mpr ((Int.mul_lt_mul_left t1).mpr h)
/-- (mirrored) -/
theorem broken_mirror {a : List Int} {b : Int} {x : List (Int × Int)} (hx : ∀ z, z ∈ x → 0 < z.2) : brokenB (a.map (- ·)) b (x.map fun z => (0 - z.1, z.2)) = brokenB a b x := by
  have Lx := lcmL_pos hx
  have dx : ∀ z, z ∈ x → z.2 ∣ lcmL x := fun z hz => lcmL_dvd hx hz
  rw [broken_at (fun z hz => by
    obtain ⟨u, hu, rfl⟩ := List.mem_map.mp hz
    exact hx u hu) Lx (fun z hz => by
    obtain ⟨u, hu, rfl⟩ := List.mem_map.mp hz
    exact dx u hu), broken_at hx Lx dx, decide_eq_decide]
  have e1 : overN (lcmL x) (x.map fun z => (0 - z.1, z.2)) = (overN (lcmL x) x).map (- ·) := by
    unfold overN
    rw [List.map_map, List.map_map]
    refine List.map_congr_left fun z _ => ?_
    show (0 - z.1) * (lcmL x).fdiv z.2 = -(z.1 * (lcmL x).fdiv z.2)
    rw [Int.zero_sub, Int.neg_mul]
  rw [e1, dot_neg2]
/-- (placed) -/
theorem broken_place {a : List Int} {b : Int} {x : List (Int × Int)} {o : List Nat} (hx : ∀ z, z ∈ x → 0 < z.2) (hl : a.length = x.length) (ho : o.Perm (List.range a.length)) : brokenB (o.map (a.getD · 0)) b (o.map (x.getD · (0, 1))) = brokenB a b x := by
  have Lx := lcmL_pos hx
  have dx : ∀ z, z ∈ x → z.2 ∣ lcmL x := fun z hz => lcmL_dvd hx hz
  have inx : ∀ k, k ∈ o → ∃ z, x[k]? = some z ∧ x.getD k (0, 1) = z := fun k hk => by
    have hk2 : k < x.length := by rw [← hl]; exact List.mem_range.mp (ho.mem_iff.mp hk)
    exact ⟨x[k], List.getElem?_eq_getElem hk2, by rw [List.getD_eq_getElem?_getD, List.getElem?_eq_getElem hk2]; rfl⟩
  rw [broken_at (fun z hz => by
    obtain ⟨k, hk, rfl⟩ := List.mem_map.mp hz
    obtain ⟨u, hu, e⟩ := inx k hk
    rw [e]; exact hx u (List.mem_of_getElem? hu)) Lx (fun z hz => by
    obtain ⟨k, hk, rfl⟩ := List.mem_map.mp hz
    obtain ⟨u, hu, e⟩ := inx k hk
    rw [e]; exact dx u (List.mem_of_getElem? hu)), broken_at hx Lx dx, decide_eq_decide]
  have e1 : overN (lcmL x) (o.map (x.getD · (0, 1))) = o.map ((overN (lcmL x) x).getD · 0) := by
    unfold overN
    rw [List.map_map]
    refine List.map_congr_left fun k hk => ?_
    obtain ⟨u, hu, e⟩ := inx k hk
    show (x.getD k (0, 1)).1 * (lcmL x).fdiv (x.getD k (0, 1)).2 = (x.map fun z => z.1 * (lcmL x).fdiv z.2).getD k 0
    rw [e, List.getD_eq_getElem?_getD, List.getElem?_map, hu]
    rfl
  rw [e1, dot_perm (by rw [overN_len]; exact hl) ho]
/-- (products) -/
theorem broken_front {a : List Int} {b : Int} {x y : List (Int × Int)} (hx : ∀ z, z ∈ x → 0 < z.2) (hy : ∀ z, z ∈ y → 0 < z.2) (hl : a.length = x.length) (m : Nat) : brokenB (a ++ List.replicate m 0) b (x ++ y) = brokenB a b x := by
  have Lx := lcmL_pos hx
  have Ly := lcmL_pos hy
  have M0 := Int.mul_pos Lx Ly
  have dx : ∀ z, z ∈ x → z.2 ∣ lcmL x * lcmL y := fun z hz => Int.dvd_trans (lcmL_dvd hx hz) (Int.dvd_mul_right _ _)
  have dy : ∀ z, z ∈ y → z.2 ∣ lcmL x * lcmL y := fun z hz => Int.dvd_trans (lcmL_dvd hy hz) (Int.dvd_mul_left _ _)
  rw [broken_at (fun z hz => (List.mem_append.mp hz).elim (hx z) (hy z)) M0 (fun z hz => (List.mem_append.mp hz).elim (dx z) (dy z)), broken_at hx M0 dx]
  have e1 : overN (lcmL x * lcmL y) (x ++ y) = overN (lcmL x * lcmL y) x ++ overN (lcmL x * lcmL y) y := List.map_append
  rw [e1, dot_app _ _ _ _ (by rw [overN_len]; exact hl), dot_zero (List.replicate m 0) _ fun z hz => List.eq_of_mem_replicate hz, Int.add_zero]
theorem broken_behind {a : List Int} {b : Int} {x y : List (Int × Int)} (hx : ∀ z, z ∈ x → 0 < z.2) (hy : ∀ z, z ∈ y → 0 < z.2) {m : Nat} (hl : m = x.length) : brokenB (List.replicate m 0 ++ a) b (x ++ y) = brokenB a b y := by
  have Lx := lcmL_pos hx
  have Ly := lcmL_pos hy
  have M0 := Int.mul_pos Lx Ly
  have dx : ∀ z, z ∈ x → z.2 ∣ lcmL x * lcmL y := fun z hz => Int.dvd_trans (lcmL_dvd hx hz) (Int.dvd_mul_right _ _)
  have dy : ∀ z, z ∈ y → z.2 ∣ lcmL x * lcmL y := fun z hz => Int.dvd_trans (lcmL_dvd hy hz) (Int.dvd_mul_left _ _)
  rw [broken_at (fun z hz => (List.mem_append.mp hz).elim (hx z) (hy z)) M0 (fun z hz => (List.mem_append.mp hz).elim (dx z) (dy z)), broken_at hy M0 dy]
  have e1 : overN (lcmL x * lcmL y) (x ++ y) = overN (lcmL x * lcmL y) x ++ overN (lcmL x * lcmL y) y := List.map_append
  rw [e1, dot_app _ _ _ _ (by rw [overN_len, List.length_replicate]; exact hl), dot_zero (List.replicate m 0) _ fun z hz => List.eq_of_mem_replicate hz, Int.zero_add]
/-! sums of fractions in another sequence -/
def ndF : List (Int × Int) → Int × Int
  | [] => (0, 1)
  | x :: l => (x.1 * (ndF l).2 + (ndF l).1 * x.2, x.2 * (ndF l).2)
theorem nd_pos : ∀ {l : List (Int × Int)}, (∀ z, z ∈ l → 0 < z.2) → 0 < (ndF l).2
  | [], _ => by decide
  | x :: l, h => Int.mul_pos (h x List.mem_cons_self) (nd_pos fun z hz => h z (List.mem_cons_of_mem _ hz))
theorem fold_pl : ∀ {l : List (Int × Int)} {s t : Int}, 0 < t → (∀ z, z ∈ l → 0 < z.2) → (∀ z, z ∈ l → Nf z) → l.foldl pl' (lst s t) = lst (s * (ndF l).2 + (ndF l).1 * t) (t * (ndF l).2)
  | [], s, t, _, _, _ => by
    show lst s t = lst (s * 1 + 0 * t) (t * 1)
    rw [Int.mul_one, Int.mul_one, Int.zero_mul, Int.add_zero]
  | x :: l, s, t, ht, h, hn => by
    have x0 := h x List.mem_cons_self
    have xn : lst x.1 x.2 = x := hn x List.mem_cons_self
    show l.foldl pl' (pl' (lst s t) x) = _
    conv => lhs; rw [← xn]
    rw [pl_lst ht x0, fold_pl (Int.mul_pos ht x0) (fun z hz => h z (List.mem_cons_of_mem _ hz)) fun z hz => hn z (List.mem_cons_of_mem _ hz)]
    show lst ((s * x.2 + x.1 * t) * (ndF l).2 + (ndF l).1 * (t * x.2)) (t * x.2 * (ndF l).2) = lst (s * (x.2 * (ndF l).2) + (x.1 * (ndF l).2 + (ndF l).1 * x.2) * t) (t * (x.2 * (ndF l).2))
    congr 1
    · grind
    · grind
theorem total_then {l : List (Int × Int)} {m : Int × Int} (h : ∀ z, z ∈ l → 0 < z.2) (hn : ∀ z, z ∈ l → Nf z) (m0 : 0 < m.2) (mn : Nf m) : pl' (l.foldl pl' (0, 1)) m = l.foldl pl' m := by
  have e0 : ((0, 1) : Int × Int) = lst 0 1 := (lst_zero (by decide)).symm
  have em : lst m.1 m.2 = m := mn
  rw [e0, fold_pl (by decide) h hn]
  conv => rhs; rw [← em]
  rw [fold_pl m0 h hn]
  conv => lhs; rw [← em]
  have n0 := nd_pos h
  rw [pl_lst (by omega) m0]
  congr 1
  · grind
  · grind

abbrev intsD (a : List Int) : PyData := .tuple (a.map PyData.int)
abbrev rowD (a : List Int) (b : Int) : PyData := .tuple [intsD a, .int b]
abbrev ptD (xs : List (Int × Int)) : PyData := .tuple (xs.map frD)
structure PtOk (xs : List (Int × Int)) : Prop where
  len : xs.length ≤ 7
  fq : ∀ x, x ∈ xs → Fq 200 x
structure RowOk (n : Nat) (a : List Int) (b : Int) : Prop where
  len : a.length ≤ 7
  ba : ∀ x, x ∈ a → Bit n x
  bb : Bit n b
theorem PtOk.pos {xs : List (Int × Int)} (h : PtOk xs) : ∀ x, x ∈ xs → 0 < x.2 := fun x hx => (h.fq x hx).pos
theorem PtOk.lcm {xs : List (Int × Int)} (h : PtOk xs) : Bit 1401 (lcmL xs) := (lcmL_bit (k := 200) fun x hx => (h.fq x hx).b2).mono (by have := h.len; omega)
theorem PtOk.whole {xs : List (Int × Int)} (h : PtOk xs) : ∀ y, y ∈ wholeN xs → Bit 1601 y := fun y hy => (overN_bit (k := 200) h.lcm h.pos (fun x hx => lcmL_dvd h.pos hx) (fun x hx => (h.fq x hx).b1) y hy).mono (by decide)
def mDot (_ : Fr) (es : List Ent) (R : PyData → Prop) : Prop := ∃ a b : List Int, es = [.dat (intsD a), .dat (intsD b)] ∧ a.length ≤ 1000 ∧ (∀ x, x ∈ a → Bit 4000 x) ∧ (∀ x, x ∈ b → Bit 4000 x) ∧ R (.int (dotI a b))
theorem dot_at {a b : List Int} {B : Fr} {R : PyData → Prop} (h0 : a.length ≤ 1000) (h1 : ∀ x, x ∈ a → Bit 4000 x) (h2 : ∀ x, x ∈ b → Bit 4000 x) (r : R (.int (dotI a b))) : mDot B [.dat (.tuple (a.map PyData.int)), .dat (.tuple (b.map PyData.int))] R := ⟨a, b, rfl, h0, h1, h2, r⟩
def mDivisor (_ : Fr) (es : List Ent) (R : PyData → Prop) : Prop := ∃ ns : List Int, es = [.dat (intsD ns)] ∧ R (.int (gcdL ns))
def mWhole (_ : Fr) (es : List Ent) (R : PyData → Prop) : Prop := ∃ xs : List (Int × Int), es = [.dat (ptD xs)] ∧ PtOk xs ∧ R (.tuple [intsD (wholeN xs), .int (lcmL xs)])
theorem whole_at {xs : List (Int × Int)} {B : Fr} {R : PyData → Prop} (h : PtOk xs) (r : R (.tuple [intsD (wholeN xs), .int (lcmL xs)])) : mWhole B [.dat (.tuple (xs.map frD))] R := ⟨xs, rfl, h, r⟩
def mPlain (_ : Fr) (es : List Ent) (R : PyData → Prop) : Prop := ∃ (a : List Int) (b : Int), es = [.dat (rowD a b)] ∧ RowOk 4000 a b ∧ R (rowD (plainR a b).1 (plainR a b).2)
theorem plain_at {a : List Int} {b : Int} {B : Fr} {R : PyData → Prop} (h : RowOk 4000 a b) (r : R (rowD (plainR a b).1 (plainR a b).2)) : mPlain B [.dat (.tuple [.tuple (a.map PyData.int), .int b])] R := ⟨a, b, rfl, h, r⟩
theorem divisor_at {ns : List Int} {B : Fr} {R : PyData → Prop} (r : R (.int (gcdL ns))) : mDivisor B [.dat (.tuple (ns.map PyData.int))] R := ⟨ns, rfl, r⟩
def mRowOf (_ : Fr) (es : List Ent) (R : PyData → Prop) : Prop := ∃ (xs : List (Int × Int)) (y : Int × Int), es = [.dat (ptD xs), .dat (frD y)] ∧ PtOk (xs ++ [y]) ∧ R (rowD (rowOfR xs y).1 (rowOfR xs y).2)
def mTest (t : List Int → Int → Bool) (_ : Fr) (es : List Ent) (R : PyData → Prop) : Prop := ∃ (a : List Int) (b : Int), es = [.dat (rowD a b)] ∧ R (.bool (t a b))
def mReach (h : List Int → Int → List (Int × Int) → Int × Int) (_ : Fr) (es : List Ent) (R : PyData → Prop) : Prop := ∃ (a : List Int) (b : Int) (xs : List (Int × Int)), es = [.dat (rowD a b), .dat (ptD xs)] ∧ RowOk 2200 a b ∧ PtOk xs ∧ R (frD (h a b xs))
theorem zlt {x : Int} (h : (!decide (x < 0)) = true) : 0 ≤ x := by simpa using h
theorem ints_app (a : List Int) (b : Int) : a.map PyData.int ++ [.int b] = (a ++ [b]).map PyData.int := by rw [List.map_append]; rfl
theorem dot_bit' {a : List Int} {b : Int} {xs : List (Int × Int)} (h : RowOk 2200 a b) (hx : PtOk xs) : Bit 3808 (dotI a (wholeN xs)) := (dot_bit h.ba hx.whole).mono (by have := h.len; omega)
theorem whole_bits {xs : List (Int × Int)} (h : PtOk xs) : ∀ x, x ∈ wholeN xs → Bit 4000 x := fun x hx => (h.whole x hx).mono (by decide)
theorem RowOk.ba4 {n : Nat} {a : List Int} {b : Int} (h : RowOk n a b) (l : n ≤ 4000) : ∀ x, x ∈ a → Bit 4000 x := fun x hx => (h.ba x hx).mono l
abbrev Rows := List (List Int × Int)
abbrev rowsD (rows : Rows) : PyData := .tuple (rows.map fun r => rowD r.1 r.2)
abbrev roomD (n : Int) (rows : Rows) : PyData := .tuple [.int n, rowsD rows]
structure RmOk (rows : Rows) : Prop where
  len : rows.length ≤ 100
  row : ∀ r, r ∈ rows → RowOk 2200 r.1 r.2
def tightO (rows : Rows) (xs : List (Int × Int)) (i : Nat) : Option Int := match rows[i]? with
  | some r => if tightB r.1 r.2 xs = true then some (i : Int) else none
  | none => none
def brokenO (rows : Rows) (xs : List (Int × Int)) (i : Nat) : Option Int := match rows[i]? with
  | some r => if brokenB r.1 r.2 xs = true then some (i : Int) else none
  | none => none
def tightL (rows : Rows) (xs : List (Int × Int)) : List Int := (List.range rows.length).filterMap (tightO rows xs)
def brokenL (rows : Rows) (xs : List (Int × Int)) : List Int := (List.range rows.length).filterMap (brokenO rows xs)
def firstD (rows : Rows) (xs : List (Int × Int)) : PyData := match brokenL rows xs with
  | [] => .none
  | k :: _ => .int k
def isInB (rows : Rows) (xs : List (Int × Int)) : Bool := (brokenL rows xs).isEmpty
def mRoom (h : Rows → List (Int × Int) → PyData) (_ : Fr) (es : List Ent) (R : PyData → Prop) : Prop := ∃ (n : Int) (rows : Rows) (xs : List (Int × Int)), es = [.dat (roomD n rows), .dat (ptD xs)] ∧ RmOk rows ∧ PtOk xs ∧ R (h rows xs)
theorem room_at {n : Int} {rows : Rows} {xs : List (Int × Int)} {B : Fr} {R : PyData → Prop} {h : Rows → List (Int × Int) → PyData} (h1 : RmOk rows) (h2 : PtOk xs) (r : R (h rows xs)) : mRoom h B [.dat (.tuple [.int n, .tuple (rows.map fun r => .tuple [.tuple (r.1.map PyData.int), .int r.2])]), .dat (.tuple (xs.map frD))] R := ⟨n, rows, xs, rfl, h1, h2, r⟩
theorem bL_bit {b : Int} {xs : List (Int × Int)} (hb : Bit 2200 b) (h : PtOk xs) : Bit 3601 (b * lcmL xs) := hb.mul h.lcm
theorem lcm_ne {xs : List (Int × Int)} (h : PtOk xs) : lcmL xs ≠ 0 := by have := lcmL_pos h.pos; omega
def mNumber (B : Fr) (es : List Ent) (R : PyData → Prop) : Prop := ∃ (p l : Addr), B = Fsrc p l ∧ es = [.raw (.ref p)] ∧ ∀ n : Int, Bit 160 n → R (.int n)
theorem number_at {p l : Addr} {R : PyData → Prop} (h : ∀ n : Int, Bit 160 n → R (.int n)) : mNumber (Fsrc p l) [.raw (.ref p)] R := ⟨p, l, rfl, rfl, h⟩
def mLDiv (_ : Fr) (es : List Ent) (R : PyData → Prop) : Prop := ∃ ns : List Int, es = [.dat (.list (ns.map PyData.int))] ∧ R (.int (gcdL ns))
theorem ldiv_at {ns : List Int} {B : Fr} {R : PyData → Prop} (r : R (.int (gcdL ns))) : mLDiv B [.dat (.list (ns.map PyData.int))] R := ⟨ns, rfl, r⟩
theorem ldiv2_at {a b : Int} {B : Fr} {R : PyData → Prop} (r : R (.int (gcdL [a, b]))) : mLDiv B [.dat (.list [.int a, .int b])] R := ⟨[a, b], rfl, r⟩
def mLReach (h : List Int → Int → List (Int × Int) → Int × Int) (_ : Fr) (es : List Ent) (R : PyData → Prop) : Prop := ∃ (a : List Int) (b : Int) (xs : List (Int × Int)), es = [.dat (rowD a b), .dat (ptD xs)] ∧ RowOk 2200 a b ∧ PtOk xs ∧ a.length = xs.length ∧ R (frD (h a b xs))
theorem lreach_at {h : List Int → Int → List (Int × Int) → Int × Int} {a : List Int} {b : Int} {xs : List (Int × Int)} {B : Fr} {R : PyData → Prop} (h1 : RowOk 2200 a b) (h2 : PtOk xs) (h3 : a.length = xs.length) (r : R (frD (h a b xs))) : mLReach h B [.dat (.tuple [.tuple (a.map PyData.int), .int b]), .dat (.tuple (xs.map frD))] R := ⟨a, b, xs, rfl, h1, h2, h3, r⟩
theorem reach_fq {a : List Int} {b : Int} {xs : List (Int × Int)} (h : RowOk 2200 a b) (hx : PtOk xs) : Fq 3808 (reachR a xs) := lst_fq (lcm_ne hx) (dot_bit' h hx) (hx.lcm.mono (by decide))
theorem RowOk.take {n : Nat} {a : List Int} {b : Int} (h : RowOk n a b) (i : Nat) : RowOk n (a.take i) b := ⟨by have := h.len; rw [List.length_take]; omega, fun x hx => h.ba x (List.mem_of_mem_take hx), h.bb⟩
theorem PtOk.take {xs : List (Int × Int)} (h : PtOk xs) (i : Nat) : PtOk (xs.take i) := ⟨by have := h.len; rw [List.length_take]; omega, fun x hx => h.fq x (List.mem_of_mem_take hx)⟩
theorem nat_abs_mod (x y : Nat) : (x : Int).fmod (y : Int) = ((x % y : Nat) : Int) := by rw [Int.fmod_eq_emod_of_nonneg _ (by omega), Int.natCast_emod]
def mRowAt (B : Fr) (es : List Ent) (R : PyData → Prop) : Prop := ∃ (p l : Addr) (xs : List (Int × Int)), B = Fsrc p l ∧ es = [.raw (.ref p), .dat (ptD xs)] ∧ PtOk xs ∧ ∀ (a : List Int) (b : Int), a.length = xs.length → RowOk 1800 a b → R (rowD a b)
theorem row_at {p l : Addr} {xs : List (Int × Int)} {R : PyData → Prop} (h : PtOk xs) (r : ∀ (a : List Int) (b : Int), a.length = xs.length → RowOk 1800 a b → R (rowD a b)) : mRowAt (Fsrc p l) [.raw (.ref p), .dat (.tuple (xs.map frD))] R := ⟨p, l, xs, rfl, rfl, h, r⟩
def mHalf (B : Fr) (es : List Ent) (R : PyData → Prop) : Prop := ∃ (p l : Addr) (n : Int), B = Fsrc p l ∧ es = [.raw (.ref p), .dat (.int n)] ∧ 0 ≤ n ∧ n ≤ 6 ∧ R (.bool true)
theorem half_at {p l : Addr} {n : Int} {R : PyData → Prop} (h0 : 0 ≤ n) (h1 : n ≤ 6) (r : R (.bool true)) : mHalf (Fsrc p l) [.raw (.ref p), .dat (.int n)] R := ⟨p, l, n, rfl, rfl, h0, h1, r⟩
theorem RowOk.mono {n m : Nat} {a : List Int} {b : Int} (h : RowOk n a b) (l : n ≤ m) : RowOk m a b := ⟨h.len, fun x hx => (h.ba x hx).mono l, h.bb.mono l⟩
theorem plain_ok {n : Nat} {a : List Int} {b : Int} (h : RowOk n a b) (hn : 1 ≤ n) : RowOk n (plainR a b).1 (plainR a b).2 := by
  have e := plainR_bit hn h.ba h.bb
  exact ⟨by rw [e.2.2]; exact h.len, e.1, e.2.1⟩
theorem sh_row {n : Nat} {a : List Int} {b : Int} (h : RowOk n a b) (l : n ≤ 12000) : Sh 3 182041 (rowD a b) := by
  have hl := h.len
  have e1 : Sh 2 91017 (intsD a) := (Sh.tuple (sh_ints h.ba l)).mono (by decide) (by rw [List.length_map]; omega)
  have e2 : Sh 2 91017 (.int b) := (Sh.int (h.bb.mono l)).mono (by decide) (by decide)
  refine (Sh.tuple (k := 2) (m := 91017) fun x hx => ?_).mono (by decide) (by simp)
  simp only [List.mem_cons, List.not_mem_nil, or_false] at hx
  rcases hx with rfl | rfl
  · exact e1
  · exact e2
theorem cl_row (a : List Int) (b : Int) : PyData.canLay0 (rowD a b) = true := cl_tup fun x hx => by
  simp only [List.mem_cons, List.not_mem_nil, or_false] at hx
  rcases hx with rfl | rfl
  · exact cl_tup cl_ints
  · exact cl_int b
theorem test_at {t : List Int → Int → Bool} {a : List Int} {b : Int} {B : Fr} {R : PyData → Prop} (r : R (.bool (t a b))) : mTest t B [.dat (.tuple [.tuple (a.map PyData.int), .int b])] R := ⟨a, b, rfl, r⟩
theorem rowof_at {xs : List (Int × Int)} {y : Int × Int} {B : Fr} {R : PyData → Prop} (h : PtOk (xs ++ [y])) (r : R (rowD (rowOfR xs y).1 (rowOfR xs y).2)) : mRowOf B [.dat (.tuple (xs.map frD)), .dat (.tuple [.int y.1, .int y.2])] R := ⟨xs, y, rfl, h, r⟩
theorem eqv_row {a c : List Int} {b d : Int} : PyData.eqv (rowD a b) (rowD c d) = decide ((a, b) = (c, d)) := by
  rw [eqv_tuple, eqvA_cons, eqvA_cons, eqvA_nil, eqv_tuple, eqvA_ints, eqv_int, Bool.and_true]
  by_cases h : a = c <;> by_cases g : b = d <;> simp [h, g]
theorem sh3l {k m : Nat} {a b c : PyData} (ha : Sh k m a) (hb : Sh k m b) (hc : Sh k m c) : Sh (k + 1) (3 * (m + 2) + 2) (.list [a, b, c]) := Sh.list (sh3 ha hb hc)
theorem sh2l {k m : Nat} {a b : PyData} (ha : Sh k m a) (hb : Sh k m b) : Sh (k + 1) (2 * (m + 2) + 2) (.list [a, b]) := Sh.list (xs := [a, b]) fun x hx => by
  simp only [List.mem_cons, List.not_mem_nil, or_false] at hx
  rcases hx with rfl | rfl
  · exact ha
  · exact hb
theorem ra_l {K : PySem.W.Frag} {Q : PyData → Prop} {k m : Nat} {ds : List PyData} (h : Sh k m (.list ds)) (hk : k ≤ 50 := by decide) (hm : m ≤ 16000000 := by decide) (q : Q (.str (PyData.list ds).shown)) : CD (rReprA K) [.list ds] Q := ra_list h.shw (Nat.le_trans h.dep hk) (Nat.le_trans h.len (Nat.le_trans hm (by decide))) q
theorem ra_t {K : PySem.W.Frag} {Q : PyData → Prop} {k m : Nat} {ds : List PyData} (h : Sh k m (.tuple ds)) (hk : k ≤ 50 := by decide) (hm : m ≤ 16000000 := by decide) (q : Q (.str (PyData.tuple ds).shown)) : CD (rReprA K) [.tuple ds] Q := ra_tup h.shw (Nat.le_trans h.dep hk) (Nat.le_trans h.len (Nat.le_trans hm (by decide))) q
theorem ne_sameA {K : PySem.W.Frag} {a b : Str} {p q : Prop} (h : a = b) (r : q) : OD (rNeA K) (.str a) (.str b) (fun d => ∃ c, d = .bool c ∧ if c = true then p else q) := od_neS' ⟨_, rfl, neF h r⟩
theorem eq_sameA {K : PySem.W.Frag} {a b : Str} {Q : PyData → Prop} (h : a = b) (r : Q (.bool true)) : OD (rEqA K) (.str a) (.str b) Q := od_eqS' (by rw [decide_eq_true h]; exact r)
theorem rep_ints (n : Nat) (i : Int) : List.replicate n (PyData.int i) = (List.replicate n i).map PyData.int := by rw [List.map_replicate]
theorem rep_ok {n k : Nat} {b : Int} (hk : k ≤ 7) (hb : Bit n b) : RowOk n (List.replicate k 0) b := ⟨by rw [List.length_replicate]; exact hk, fun x hx => by rw [List.eq_of_mem_replicate hx]; exact Bit.zero n, hb⟩
theorem ptOk_app {xs : List (Int × Int)} {y : Int × Int} (hl : xs.length ≤ 6) (h : ∀ x, x ∈ xs → Fq 160 x) (hy : Fq 160 y) : PtOk (xs ++ [y]) := ⟨by rw [List.length_append, List.length_singleton]; omega, fun x hx => by
  rcases List.mem_append.mp hx with q | q
  · exact (h x q).mono (by decide)
  · rw [List.mem_singleton.mp q]; exact hy.mono (by decide)⟩
theorem drawn_at' {p l : Addr} {R : PyData → Prop} (h : ∀ x : Int × Int, Fq 160 x → R (frD x)) : mDrawn (Fsrc p l) [.raw (.ref p)] R := ⟨p, l, rfl, rfl, h⟩
theorem fq01' : Fq 160 ((0, 1) : Int × Int) := ⟨by decide, Bit.zero _, bit1.mono (by decide)⟩
def IsRow (k : Nat) (d : PyData) : Prop := ∃ r : List Int × Int, (r.1.length = k ∧ RowOk 1800 r.1 r.2) ∧ d = rowD r.1 r.2
theorem isRow_list {k : Nat} : ∀ (ds : List PyData), (∀ d, d ∈ ds → IsRow k d) → ∃ rows : Rows, ds = rows.map (fun r => rowD r.1 r.2) ∧ ∀ r, r ∈ rows → r.1.length = k ∧ RowOk 1800 r.1 r.2
  | [], _ => ⟨[], rfl, fun _ h => by cases h⟩
  | d :: ds, h => by
    obtain ⟨rows, e, hx⟩ := isRow_list ds fun y hy => h y (List.mem_cons_of_mem _ hy)
    obtain ⟨x, fx, e2⟩ := h d List.mem_cons_self
    refine ⟨x :: rows, by rw [e, e2]; rfl, fun y hy => ?_⟩
    rcases List.mem_cons.mp hy with q | q
    · exact q ▸ fx
    · exact hx y q
theorem lf_ints (a : List Int) : LF (intsD a) = true := by
  rw [LF_tuple]
  refine LFA_all fun d hd => ?_
  obtain ⟨x, _, rfl⟩ := List.mem_map.mp hd
  exact LF_int
theorem lf_row (a : List Int) (b : Int) : LF (rowD a b) = true := by
  rw [LF_tuple, LFA_cons, LFA_cons, LFA_nil, lf_ints, LF_int]
  rfl
theorem lf_rows (rows : Rows) : LF (rowsD rows) = true := by
  rw [LF_tuple]
  refine LFA_all fun d hd => ?_
  obtain ⟨x, _, rfl⟩ := List.mem_map.mp hd
  exact lf_row _ _
theorem lf_room (n : Int) (rows : Rows) : LF (roomD n rows) = true := by
  rw [LF_tuple, LFA_cons, LFA_cons, LFA_nil, lf_rows, LF_int]
  rfl
theorem lf_pt (xs : List (Int × Int)) : LF (ptD xs) = true := by
  rw [LF_tuple]
  refine LFA_all fun d hd => ?_
  obtain ⟨x, _, rfl⟩ := List.mem_map.mp hd
  rw [LF_tuple, LFA_cons, LFA_cons, LFA_nil, LF_int, LF_int]
  rfl
theorem lfA_ints (a : List Int) : LFA (a.map PyData.int) = true := by have := lf_ints a; rw [LF_tuple] at this; exact this
theorem mem_tight {rows : Rows} {xs : List (Int × Int)} (h : RmOk rows) : ∀ x, x ∈ tightL rows xs → Bit 20 x := fun x hx => by
  obtain ⟨i, hi, e⟩ := List.mem_filterMap.mp hx
  have hi2 := List.mem_range.mp hi
  have hl := h.len
  unfold tightO at e
  split at e
  · split at e
    · cases e; unfold Bit; omega
    · cases e
  · cases e
theorem mem_broken {rows : Rows} {xs : List (Int × Int)} (h : rows.length ≤ 100) : ∀ x, x ∈ brokenL rows xs → Bit 20 x := fun x hx => by
  obtain ⟨i, hi, e⟩ := List.mem_filterMap.mp hx
  have hi2 := List.mem_range.mp hi
  unfold brokenO at e
  split at e
  · split at e
    · cases e; unfold Bit; omega
    · cases e
  · cases e
abbrev plainRows (rows : Rows) : Rows := rows.map fun r => plainR r.1 r.2
theorem broken_pl {rows : Rows} {xs : List (Int × Int)} (h : ∀ x, x ∈ xs → 0 < x.2) : brokenL (plainRows rows) xs = brokenL rows xs := by
  unfold brokenL
  rw [List.length_map]
  refine congrArg (fun f => (List.range rows.length).filterMap f) (funext fun i => ?_)
  unfold brokenO
  rw [List.getElem?_map]
  cases e : rows[i]? with
  | none => rfl
  | some r =>
    show (if brokenB (plainR r.1 r.2).1 (plainR r.1 r.2).2 xs = true then some (i : Int) else none) = _
    rw [broken_plain h]
theorem eqvA_rows : ∀ {r s : Rows}, PyData.eqvAll (r.map fun r => rowD r.1 r.2) (s.map fun r => rowD r.1 r.2) = true → r = s
  | [], [], _ => rfl
  | [], y :: b, h => by rw [List.map_nil, List.map_cons, eqvA_nc] at h; cases h
  | x :: a, [], h => by rw [List.map_nil, List.map_cons, eqvA_cn] at h; cases h
  | x :: a, y :: b, h => by
    rw [List.map_cons, List.map_cons, eqvA_cons, eqv_row] at h
    have h2 := Bool.and_eq_true_iff.mp h
    rw [show x = y from of_decide_eq_true h2.1, eqvA_rows h2.2]
theorem eqv_room {n m : Int} {r s : Rows} (h : PyData.eqv (roomD n r) (roomD m s) = true) : r = s := by
  rw [eqv_tuple, eqvA_cons, eqvA_cons] at h
  have h2 := (Bool.and_eq_true_iff.mp (Bool.and_eq_true_iff.mp h).2).1
  rw [eqv_tuple] at h2
  exact eqvA_rows h2
theorem cl_room (n : Int) (rows : Rows) : PyData.canLay0 (roomD n rows) = true := cl_tup fun x hx => by
  simp only [List.mem_cons, List.not_mem_nil, or_false] at hx
  rcases hx with rfl | rfl
  · exact cl_int n
  · exact cl_tup fun y hy => by
      obtain ⟨r, _, rfl⟩ := List.mem_map.mp hy
      exact cl_row _ _
theorem sh_pt {xs : List (Int × Int)} (h : PtOk xs) : Sh 3 200000 (ptD xs) := (Sh.tuple (k := 2) (m := 27000) fun x hx => by
  obtain ⟨y, hy, rfl⟩ := List.mem_map.mp hx
  exact (h.fq y hy).sh (by decide)).mono (by decide) (by have := h.len; rw [List.length_map]; omega)
theorem sh_room {n : Int} {rows : Rows} (hn : Bit 20 n) (hl : rows.length ≤ 11) (h : ∀ r, r ∈ rows → RowOk 1800 r.1 r.2) : Sh 5 4004959 (roomD n rows) := by
  have e1 : Sh 4 2002476 (rowsD rows) := (Sh.tuple (k := 3) (m := 182041) fun x hx => by
    obtain ⟨r, hr, rfl⟩ := List.mem_map.mp hx
    exact sh_row (h r hr) (by decide)).mono (by decide) (by rw [List.length_map]; omega)
  refine (Sh.tuple (k := 4) (m := 2002476) fun x hx => ?_).mono (by decide) (by simp)
  simp only [List.mem_cons, List.not_mem_nil, or_false] at hx
  rcases hx with rfl | rfl
  · exact (Sh.int (hn.mono (by decide))).mono (by decide) (by decide)
  · exact e1
theorem first_at {rows : Rows} {xs : List (Int × Int)} : atI ((brokenL rows xs).map PyData.int ++ [.none]) 0 = some (firstD rows xs) := by
  unfold firstD
  cases brokenL rows xs with
  | nil => rfl
  | cons k r => exact atI_nat (j := 0) rfl
theorem first_leaf {rows : Rows} {xs : List (Int × Int)} (h : rows.length ≤ 100) : firstD rows xs = .none ∨ (∃ b, firstD rows xs = .bool b) ∨ ∃ i : Int, firstD rows xs = .int i ∧ i.natAbs.log2 < 1920 := by
  unfold firstD
  cases e : brokenL rows xs with
  | nil => exact .inl rfl
  | cons k r =>
    refine .inr (.inr ⟨k, rfl, ?_⟩)
    have := mem_broken h k (by rw [e]; exact List.mem_cons_self)
    exact this.log (by decide)
theorem empty_is {rows : Rows} {xs : List (Int × Int)} : PyData.eqv (.list ((brokenL rows xs).map PyData.int)) (.list []) = isInB rows xs := by
  unfold isInB
  rw [eqv_list]
  cases brokenL rows xs with
  | nil => exact eqvA_nil
  | cons k r => exact eqvA_cn
theorem tl_len (rows : Rows) (xs : List (Int × Int)) : (tightL rows xs).length ≤ rows.length := by
  unfold tightL
  exact Nat.le_trans (List.length_filterMap_le _ _) (by rw [List.length_range]; exact Nat.le_refl _)
theorem bl_len (rows : Rows) (xs : List (Int × Int)) : (brokenL rows xs).length ≤ rows.length := by
  unfold brokenL
  exact Nat.le_trans (List.length_filterMap_le _ _) (by rw [List.length_range]; exact Nat.le_refl _)
theorem sh_tight {rows : Rows} {xs : List (Int × Int)} (h : RmOk rows) (hl : rows.length ≤ 11) : Sh 2 200000 (.list ((tightL rows xs).map PyData.int)) := (Sh.list (sh_ints (mem_tight h) (by decide))).mono (by decide) (by have := tl_len rows xs; rw [List.length_map]; omega)
theorem sh_broken {rows : Rows} {xs : List (Int × Int)} (hl : rows.length ≤ 11) : Sh 2 200000 (.list ((brokenL rows xs).map PyData.int)) := (Sh.list (sh_ints (mem_broken (by omega)) (by decide))).mono (by decide) (by have := bl_len rows xs; rw [List.length_map]; omega)
def ShA (d : PyData) : Prop := Shw d ∧ d.depth ≤ 50 ∧ d.shown.length ≤ sizeLine
theorem shA_of {k m : Nat} {d : PyData} (h : Sh k m d) (hk : k ≤ 50 := by decide) (hm : m ≤ 16000000 := by decide) : ShA d := ⟨h.shw, Nat.le_trans h.dep hk, Nat.le_trans h.len (Nat.le_trans hm (by decide))⟩
theorem ew_reprOwnS {B : Dl.Fr} {env : List Ent} {K : PySem.W.Frag} {Q : PyData → Prop} {i : Nat} (h : ∃ a ds, env[i]? = some (.own a ds) ∧ ShA (.list ds) ∧ Q (.str (PyData.list ds).shown)) : EW B env (tCB (rReprA K) (tCons (tVar i) tNil)) Q := by
  obtain ⟨a, ds, e, h, q⟩ := h
  exact ew_reprOwnA e h.1 h.2.1 h.2.2 q
theorem map_get {α : Type} {f : α → PyData} {xs : List α} {i : Nat} {x : α} {u : PyData} (h : xs[i]? = some x) (hu : (xs.map f)[i]? = some u) : u = f x := by
  rw [List.getElem?_map, h] at hu
  cases hu
  rfl
theorem small_row {a : List Int} {b : Int} (hl : a.length ≤ 7) (ha : ∀ x, x ∈ a → Bit 4000 x) (hb : Bit 4000 b) : RowOk 4000 a b := ⟨hl, ha, hb⟩
theorem b8 {x : Int} (h : x.natAbs < 2 ^ 8 := by decide) : Bit 4000 x := Bit.mono (n := 8) h (by decide)
theorem mem2 {a b : Int} {P : Int → Prop} (ha : P a) (hb : P b) : ∀ x, x ∈ [a, b] → P x := fun x hx => by
  simp only [List.mem_cons, List.not_mem_nil, or_false] at hx
  rcases hx with rfl | rfl
  · exact ha
  · exact hb
theorem mem1 {a : Int} {P : Int → Prop} (ha : P a) : ∀ x, x ∈ [a] → P x := fun x hx => by
  rw [List.mem_singleton.mp hx]
  exact ha
theorem mem0 {P : Int → Prop} : ∀ x, x ∈ ([] : List Int) → P x := fun x hx => by cases hx
theorem sh4l {k m : Nat} {a b c d : PyData} (ha : Sh k m a) (hb : Sh k m b) (hc : Sh k m c) (hd : Sh k m d) : Sh (k + 1) (4 * (m + 2) + 2) (.list [a, b, c, d]) := Sh.list (xs := [a, b, c, d]) fun x hx => by
  simp only [List.mem_cons, List.not_mem_nil, or_false] at hx
  rcases hx with rfl | rfl | rfl | rfl
  · exact ha
  · exact hb
  · exact hc
  · exact hd
end Ev
end
section
set_option Elab.async false
set_option linter.all false
set_option maxRecDepth 100000
set_option maxHeartbeats 0
namespace E3
open PySem L2 PySem.Spec PyProof.Rows Dl RZ Ev
def top (i : Nat) : Stmt := PySem.Challenge.pw_everygust_k03_rooms_of_rooms.main.body.getD i (.Pass ⟨0, 0, 0, 0⟩)
abbrev st_fraction_of : Stmt := top 2
abbrev names_fraction_of : List Str := ["p", "q", "shared"]
abbrev pars_fraction_of : List Str := ["p", "q"]
theorem sc_fraction_of : FnScope names_fraction_of pars_fraction_of (defScope st_fraction_of) := ⟨rfl, rfl, rfl, by decide +kernel, rfl, by decide +kernel, by decide +kernel⟩
abbrev st_plus : Stmt := top 3
abbrev names_plus : List Str := ["one", "other"]
abbrev pars_plus : List Str := ["one", "other"]
theorem sc_plus : FnScope names_plus pars_plus (defScope st_plus) := ⟨rfl, rfl, rfl, by decide +kernel, rfl, by decide +kernel, by decide +kernel⟩
abbrev st_times : Stmt := top 4
abbrev names_times : List Str := ["one", "other"]
abbrev pars_times : List Str := ["one", "other"]
theorem sc_times : FnScope names_times pars_times (defScope st_times) := ⟨rfl, rfl, rfl, by decide +kernel, rfl, by decide +kernel, by decide +kernel⟩
abbrev st_total : Stmt := top 5
abbrev names_total : List Str := ["fractions", "found", "one"]
abbrev pars_total : List Str := ["fractions"]
theorem sc_total : FnScope names_total pars_total (defScope st_total) := ⟨rfl, rfl, rfl, by decide +kernel, rfl, by decide +kernel, by decide +kernel⟩
abbrev st_dot : Stmt := top 7
abbrev names_dot : List Str := ["one", "other", "x", "y"]
abbrev pars_dot : List Str := ["one", "other"]
theorem sc_dot : FnScope names_dot pars_dot (defScope st_dot) := ⟨rfl, rfl, rfl, by decide +kernel, rfl, by decide +kernel, by decide +kernel⟩
abbrev st_divisor : Stmt := top 8
abbrev names_divisor : List Str := ["numbers", "found", "number"]
abbrev pars_divisor : List Str := ["numbers"]
theorem sc_divisor : FnScope names_divisor pars_divisor (defScope st_divisor) := ⟨rfl, rfl, rfl, by decide +kernel, rfl, by decide +kernel, by decide +kernel⟩
abbrev st_whole : Stmt := top 9
abbrev names_whole : List Str := ["fractions", "shared", "one", "p", "q"]
abbrev pars_whole : List Str := ["fractions"]
theorem sc_whole : FnScope names_whole pars_whole (defScope st_whole) := ⟨rfl, rfl, rfl, by decide +kernel, rfl, by decide +kernel, by decide +kernel⟩
abbrev st_unit : Stmt := top 10
abbrev names_unit : List Str := ["n", "place", "number", "k"]
abbrev pars_unit : List Str := ["n", "place", "number"]
theorem sc_unit : FnScope names_unit pars_unit (defScope st_unit) := ⟨rfl, rfl, rfl, by decide +kernel, rfl, by decide +kernel, by decide +kernel⟩
abbrev st_plain_row : Stmt := top 12
abbrev names_plain_row : List Str := ["row", "members", "bound", "shared", "k"]
abbrev pars_plain_row : List Str := ["row"]
theorem sc_plain_row : FnScope names_plain_row pars_plain_row (defScope st_plain_row) := ⟨rfl, rfl, rfl, by decide +kernel, rfl, by decide +kernel, by decide +kernel⟩
abbrev st_first_broken : Stmt := top 13
abbrev names_first_broken : List Str := ["room", "point", "numbers", "denominator", "k", "a", "b"]
abbrev pars_first_broken : List Str := ["room", "point"]
theorem sc_first_broken : FnScope names_first_broken pars_first_broken (defScope st_first_broken) := ⟨rfl, rfl, rfl, by decide +kernel, rfl, by decide +kernel, by decide +kernel⟩
abbrev st_is_in : Stmt := top 14
abbrev names_is_in : List Str := ["room", "point"]
abbrev pars_is_in : List Str := ["room", "point"]
theorem sc_is_in : FnScope names_is_in pars_is_in (defScope st_is_in) := ⟨rfl, rfl, rfl, by decide +kernel, rfl, by decide +kernel, by decide +kernel⟩
abbrev st_joined : Stmt := top 15
abbrev names_joined : List Str := ["one", "other", "row"]
abbrev pars_joined : List Str := ["one", "other"]
theorem sc_joined : FnScope names_joined pars_joined (defScope st_joined) := ⟨rfl, rfl, rfl, by decide +kernel, rfl, by decide +kernel, by decide +kernel⟩
abbrev st_product : Stmt := top 16
abbrev names_product : List Str := ["one", "other", "behind", "ahead", "rows", "a", "b"]
abbrev pars_product : List Str := ["one", "other"]
theorem sc_product : FnScope names_product pars_product (defScope st_product) := ⟨rfl, rfl, rfl, by decide +kernel, rfl, by decide +kernel, by decide +kernel⟩
abbrev st_shifted : Stmt := top 17
abbrev names_shifted : List Str := ["room", "point", "numbers", "denominator", "rows", "a", "b", "moved", "k"]
abbrev pars_shifted : List Str := ["room", "point"]
theorem sc_shifted : FnScope names_shifted pars_shifted (defScope st_shifted) := ⟨rfl, rfl, rfl, by decide +kernel, rfl, by decide +kernel, by decide +kernel⟩
abbrev st_scaled : Stmt := top 18
abbrev names_scaled : List Str := ["room", "t", "rows", "a", "b", "k"]
abbrev pars_scaled : List Str := ["room", "t"]
theorem sc_scaled : FnScope names_scaled pars_scaled (defScope st_scaled) := ⟨rfl, rfl, rfl, by decide +kernel, rfl, by decide +kernel, by decide +kernel⟩
abbrev st_mirrored : Stmt := top 19
abbrev names_mirrored : List Str := ["room", "a", "b", "k"]
abbrev pars_mirrored : List Str := ["room"]
theorem sc_mirrored : FnScope names_mirrored pars_mirrored (defScope st_mirrored) := ⟨rfl, rfl, rfl, by decide +kernel, rfl, by decide +kernel, by decide +kernel⟩
abbrev st_placed : Stmt := top 20
abbrev names_placed : List Str := ["room", "order", "rows", "a", "b", "k"]
abbrev pars_placed : List Str := ["room", "order"]
theorem sc_placed : FnScope names_placed pars_placed (defScope st_placed) := ⟨rfl, rfl, rfl, by decide +kernel, rfl, by decide +kernel, by decide +kernel⟩
abbrev st_boxed : Stmt := top 21
abbrev names_boxed : List Str := ["low", "high", "n", "rows", "k", "p", "q"]
abbrev pars_boxed : List Str := ["low", "high"]
theorem sc_boxed : FnScope names_boxed pars_boxed (defScope st_boxed) := ⟨rfl, rfl, rfl, by decide +kernel, rfl, by decide +kernel, by decide +kernel⟩
abbrev st_open_room : Stmt := top 22
abbrev names_open_room : List Str := ["n"]
abbrev pars_open_room : List Str := ["n"]
theorem sc_open_room : FnScope names_open_room pars_open_room (defScope st_open_room) := ⟨rfl, rfl, rfl, by decide +kernel, rfl, by decide +kernel, by decide +kernel⟩
abbrev st_image_of : Stmt := top 23
abbrev names_image_of : List Str := ["matrix", "point", "shift", "found", "line", "moved", "m", "x"]
abbrev pars_image_of : List Str := ["matrix", "point", "shift"]
theorem sc_image_of : FnScope names_image_of pars_image_of (defScope st_image_of) := ⟨rfl, rfl, rfl, by decide +kernel, rfl, by decide +kernel, by decide +kernel⟩
abbrev st_next_of : Stmt := top 24
abbrev names_next_of : List Str := ["plant", "x", "u", "w", "by_standing", "by_wish", "by_gust", "still", "found"]
abbrev pars_next_of : List Str := ["plant", "x", "u", "w"]
theorem sc_next_of : FnScope names_next_of pars_next_of (defScope st_next_of) := ⟨rfl, rfl, rfl, by decide +kernel, rfl, by decide +kernel, by decide +kernel⟩
abbrev st_l_source : Stmt := top 26
abbrev names_l_source : List Str := ["script", "mixed", "cell"]
abbrev pars_l_source : List Str := ["script"]
theorem sc_l_source : FnScope names_l_source pars_l_source (defScope st_l_source) := ⟨rfl, rfl, rfl, by decide +kernel, rfl, by decide +kernel, by decide +kernel⟩
abbrev st_l_pick : Stmt := top 27
abbrev names_l_pick : List Str := ["source", "many", "left", "mixed"]
abbrev pars_l_pick : List Str := ["source", "many"]
theorem sc_l_pick : FnScope names_l_pick pars_l_pick (defScope st_l_pick) := ⟨rfl, rfl, rfl, by decide +kernel, rfl, by decide +kernel, by decide +kernel⟩
abbrev st_l_of : Stmt := top 28
abbrev names_l_of : List Str := ["source", "some"]
abbrev pars_l_of : List Str := ["source", "some"]
theorem sc_l_of : FnScope names_l_of pars_l_of (defScope st_l_of) := ⟨rfl, rfl, rfl, by decide +kernel, rfl, by decide +kernel, by decide +kernel⟩
abbrev st_l_mixed : Stmt := top 29
abbrev names_l_mixed : List Str := ["source", "things", "rest", "lap"]
abbrev pars_l_mixed : List Str := ["source", "things"]
theorem sc_l_mixed : FnScope names_l_mixed pars_l_mixed (defScope st_l_mixed) := ⟨rfl, rfl, rfl, by decide +kernel, rfl, by decide +kernel, by decide +kernel⟩
abbrev st_l_least : Stmt := top 30
abbrev names_l_least : List Str := ["a", "b", "one", "other"]
abbrev pars_l_least : List Str := ["a", "b"]
theorem sc_l_least : FnScope names_l_least pars_l_least (defScope st_l_least) := ⟨rfl, rfl, rfl, by decide +kernel, rfl, by decide +kernel, by decide +kernel⟩
abbrev st_l_plus : Stmt := top 31
abbrev names_l_plus : List Str := ["x", "y"]
abbrev pars_l_plus : List Str := ["x", "y"]
theorem sc_l_plus : FnScope names_l_plus pars_l_plus (defScope st_l_plus) := ⟨rfl, rfl, rfl, by decide +kernel, rfl, by decide +kernel, by decide +kernel⟩
abbrev st_l_times : Stmt := top 32
abbrev names_l_times : List Str := ["x", "y"]
abbrev pars_l_times : List Str := ["x", "y"]
theorem sc_l_times : FnScope names_l_times pars_l_times (defScope st_l_times) := ⟨rfl, rfl, rfl, by decide +kernel, rfl, by decide +kernel, by decide +kernel⟩
abbrev st_l_great : Stmt := top 33
abbrev names_l_great : List Str := ["source", "figures", "found", "lap"]
abbrev pars_l_great : List Str := ["source", "figures"]
theorem sc_l_great : FnScope names_l_great pars_l_great (defScope st_l_great) := ⟨rfl, rfl, rfl, by decide +kernel, rfl, by decide +kernel, by decide +kernel⟩
abbrev st_l_number : Stmt := top 34
abbrev names_l_number : List Str := ["source", "way", "sign"]
abbrev pars_l_number : List Str := ["source"]
theorem sc_l_number : FnScope names_l_number pars_l_number (defScope st_l_number) := ⟨rfl, rfl, rfl, by decide +kernel, rfl, by decide +kernel, by decide +kernel⟩
abbrev st_l_fraction : Stmt := top 35
abbrev names_l_fraction : List Str := ["source"]
abbrev pars_l_fraction : List Str := ["source"]
theorem sc_l_fraction : FnScope names_l_fraction pars_l_fraction (defScope st_l_fraction) := ⟨rfl, rfl, rfl, by decide +kernel, rfl, by decide +kernel, by decide +kernel⟩
abbrev st_l_divisor : Stmt := top 36
abbrev names_l_divisor : List Str := ["numbers", "found", "one", "a", "b"]
abbrev pars_l_divisor : List Str := ["numbers"]
theorem sc_l_divisor : FnScope names_l_divisor pars_l_divisor (defScope st_l_divisor) := ⟨rfl, rfl, rfl, by decide +kernel, rfl, by decide +kernel, by decide +kernel⟩
abbrev st_l_plain : Stmt := top 37
abbrev names_l_plain : List Str := ["row", "a", "b", "one", "by"]
abbrev pars_l_plain : List Str := ["row"]
theorem sc_l_plain : FnScope names_l_plain pars_l_plain (defScope st_l_plain) := ⟨rfl, rfl, rfl, by decide +kernel, rfl, by decide +kernel, by decide +kernel⟩
abbrev st_l_reach : Stmt := top 38
abbrev names_l_reach : List Str := ["row", "point", "found", "one", "p", "q"]
abbrev pars_l_reach : List Str := ["row", "point"]
theorem sc_l_reach : FnScope names_l_reach pars_l_reach (defScope st_l_reach) := ⟨rfl, rfl, rfl, by decide +kernel, rfl, by decide +kernel, by decide +kernel⟩
abbrev st_l_row_of : Stmt := top 39
abbrev names_l_row_of : List Str := ["members", "bound", "many", "p", "q"]
abbrev pars_l_row_of : List Str := ["members", "bound"]
theorem sc_l_row_of : FnScope names_l_row_of pars_l_row_of (defScope st_l_row_of) := ⟨rfl, rfl, rfl, by decide +kernel, rfl, by decide +kernel, by decide +kernel⟩
abbrev st_l_is_in : Stmt := top 40
abbrev names_l_is_in : List Str := ["room", "point", "over", "row", "one"]
abbrev pars_l_is_in : List Str := ["room", "point"]
theorem sc_l_is_in : FnScope names_l_is_in pars_l_is_in (defScope st_l_is_in) := ⟨rfl, rfl, rfl, by decide +kernel, rfl, by decide +kernel, by decide +kernel⟩
abbrev st_l_room : Stmt := top 41
abbrev names_l_room : List Str := ["source", "n", "rows", "lap", "a", "b", "k"]
abbrev pars_l_room : List Str := ["source", "n"]
theorem sc_l_room : FnScope names_l_room pars_l_room (defScope st_l_room) := ⟨rfl, rfl, rfl, by decide +kernel, rfl, by decide +kernel, by decide +kernel⟩
abbrev st_l_point : Stmt := top 42
abbrev names_l_point : List Str := ["source", "n", "k"]
abbrev pars_l_point : List Str := ["source", "n"]
theorem sc_l_point : FnScope names_l_point pars_l_point (defScope st_l_point) := ⟨rfl, rfl, rfl, by decide +kernel, rfl, by decide +kernel, by decide +kernel⟩
abbrev st_l_shifted : Stmt := top 43
abbrev names_l_shifted : List Str := ["room", "point", "rows", "a", "b", "one"]
abbrev pars_l_shifted : List Str := ["room", "point"]
theorem sc_l_shifted : FnScope names_l_shifted pars_l_shifted (defScope st_l_shifted) := ⟨rfl, rfl, rfl, by decide +kernel, rfl, by decide +kernel, by decide +kernel⟩
abbrev st_l_scaled : Stmt := top 44
abbrev names_l_scaled : List Str := ["room", "t", "a", "b", "one"]
abbrev pars_l_scaled : List Str := ["room", "t"]
theorem sc_l_scaled : FnScope names_l_scaled pars_l_scaled (defScope st_l_scaled) := ⟨rfl, rfl, rfl, by decide +kernel, rfl, by decide +kernel, by decide +kernel⟩
abbrev st_l_placed : Stmt := top 45
abbrev names_l_placed : List Str := ["room", "order", "a", "b", "k"]
abbrev pars_l_placed : List Str := ["room", "order"]
theorem sc_l_placed : FnScope names_l_placed pars_l_placed (defScope st_l_placed) := ⟨rfl, rfl, rfl, by decide +kernel, rfl, by decide +kernel, by decide +kernel⟩
abbrev st_l_boxed : Stmt := top 46
abbrev names_l_boxed : List Str := ["low", "high", "rows", "n", "k", "one", "other", "i"]
abbrev pars_l_boxed : List Str := ["low", "high"]
theorem sc_l_boxed : FnScope names_l_boxed pars_l_boxed (defScope st_l_boxed) := ⟨rfl, rfl, rfl, by decide +kernel, rfl, by decide +kernel, by decide +kernel⟩
abbrev st_l_made_right : Stmt := top 47
abbrev names_l_made_right : List Str := ["source", "n", "room", "p", "t", "order", "kept", "told", "due", "a", "b", "one", "lap", "x", "there", "some", "wide", "back", "other", "k"]
abbrev pars_l_made_right : List Str := ["source", "n"]
theorem sc_l_made_right : FnScope names_l_made_right pars_l_made_right (defScope st_l_made_right) := ⟨rfl, rfl, rfl, by decide +kernel, rfl, by decide +kernel, by decide +kernel⟩
abbrev st_l_two_right : Stmt := top 48
abbrev names_l_two_right : List Str := ["source", "n", "one", "other", "l", "late", "rows", "row", "a", "b", "told", "x", "y", "low", "high"]
abbrev pars_l_two_right : List Str := ["source", "n"]
theorem sc_l_two_right : FnScope names_l_two_right pars_l_two_right (defScope st_l_two_right) := ⟨rfl, rfl, rfl, by decide +kernel, rfl, by decide +kernel, by decide +kernel⟩
abbrev st_l_moved : Stmt := top 49
abbrev names_l_moved : List Str := ["matrix", "point", "shift", "found", "line", "one", "number", "part"]
abbrev pars_l_moved : List Str := ["matrix", "point", "shift"]
theorem sc_l_moved : FnScope names_l_moved pars_l_moved (defScope st_l_moved) := ⟨rfl, rfl, rfl, by decide +kernel, rfl, by decide +kernel, by decide +kernel⟩
abbrev st_l_next_right : Stmt := top 50
abbrev names_l_next_right : List Str := ["source", "n", "m", "k", "a", "b", "e", "size", "lap", "c", "x", "u", "w", "due", "plant", "some"]
abbrev pars_l_next_right : List Str := ["source"]
theorem sc_l_next_right : FnScope names_l_next_right pars_l_next_right (defScope st_l_next_right) := ⟨rfl, rfl, rfl, by decide +kernel, rfl, by decide +kernel, by decide +kernel⟩
abbrev st_law : Stmt := top 51
abbrev names_law : List Str := ["script", "source", "lap", "n", "far", "told", "due"]
abbrev pars_law : List Str := ["script"]
theorem sc_law : FnScope names_law pars_law (defScope st_law) := ⟨rfl, rfl, rfl, by decide +kernel, rfl, by decide +kernel, by decide +kernel⟩
structure Tx (mg : Str → Option Value) : Prop where
  abs : mg "abs" = none
  any : mg "any" = none
  enumerate : mg "enumerate" = none
  int : mg "int" = none
  len : mg "len" = none
  list : mg "list" = none
  max : mg "max" = none
  range : mg "range" = none
  repr : mg "repr" = none
  sum : mg "sum" = none
  tuple : mg "tuple" = none
  zip : mg "zip" = none
  gcd : mg "gcd" = some (.builtin "math.gcd")
  lcm : mg "lcm" = some (.builtin "math.lcm")
end E3
end
section
set_option Elab.async false
set_option linter.all false
set_option maxRecDepth 100000
set_option maxHeartbeats 0
namespace E3
open PySem L2 PySem.Spec PyProof.Rows Dl RZ Ev

section
variable {P : Program} {w : World} {K : PySem.W.Frag} {mg : Str → Option Value} {base : Heap}
theorem ok_pick {f : Addr} {fd : FuncData} (F : Fun K "_law_pick" "_law_pick" st_l_pick f fd) (T : Tx mg) : FnOk P w K mg base CX0 1 f fd ["source", "many"] (spG mPick) := by
  have nd := sc_l_pick.nd
  refine F.ok sc_l_pick (fun vs H Q E h => ?_) (fun cdv A outer s H vs Q E hr h => ?_)
  · obtain ⟨B, O, es, R, ⟨p, l, many, rfl, rfl, _⟩, _, _, sl, _⟩ := h
    match vs, sl with
    | [_, _], _ => rfl
  · obtain ⟨B, O, es, R, ⟨p, l, many, rfl, rfl, hm, hR⟩, _, j, sl, k⟩ := h
    have hu := hu_of hr
    have hu64 := hr.units
    obtain ⟨e1, e2⟩ : vs = [.ref p, .int many] ∧ True := by
      match vs, sl with
      | [a, b], sl =>
        obtain ⟨c1, ⟨v, c2, c3⟩, _⟩ := sl
        cases c1
        cases c2
        cases c3
        exact ⟨rfl, trivial⟩
    subst e1
    refine ⟨_, (pss_cons (ps_while PassesOwn.never (PW.pt (pw_and (pt_cmpR op_gt (pv 1) pe_int (nomark _)) (pw_and (pt_cmpR op_lt (pe_dget hu (pv 0) pe_str (fun _ _ => rfl)) pe_int (nomark _)) (pw_and1 (pt_cmpR op_gt (pe_callB call_len_seq (by rfl) T.len (by decide +kernel) (pa_cons (pe_dget hu (pv 0) pe_str (fun _ _ => rfl)) pa_nil)) pe_int (nomark _)))))) (pss_one (ps_dput hu (pv 0) pe_str (pe_bm0 PySem.F.plainAttrs_list PySem.F.slot_list_pop PySem.F.type_list_pop mt_pop (pe_dget hu (pv 0) pe_str (fun _ _ => rfl))) rfl)))
      (pss_cons (ps_set (i := 2) nd rfl (by first | exact Or.inl rfl | exact Or.inr rfl) (pe_dget hu (pv 0) pe_str (fun _ _ => rfl)))
      (pss_cons (ps_if (PW.pt (pw_or (pt_cmpR op_lt (pv 1) pe_int (nomark _)) (pw_or1 (pt_cmpR op_gt (pv 2) pe_int (nomark _))))) (pss_cons (ps_dput hu (pv 0) pe_str (pe_op op_fdivG (pv 2) (pe_callB (call_max2 rfl) (by rfl) T.max (by decide +kernel) (pa_cons pe_int (pa_cons (pv 1) pa_nil)))) rfl)
      (pss_one (ps_ret (pe_op op_modN (pe_callTy call_int1 (by rfl) T.int (by decide +kernel) (pa_cons (pv 2) pa_nil)) (pe_callB (call_max2 rfl) (by rfl) T.max (by decide +kernel) (pa_cons pe_int (pa_cons (pv 1) pa_nil))))))) pss_nil)
      (pss_cons (ps_dput hu (pv 0) pe_str (pe_op op_addA (pe_dget hu (pv 0) pe_str (fun _ _ => rfl)) pe_int) rfl)
      (pss_cons (ps_set (i := 3) nd rfl (by first | exact Or.inl rfl | exact Or.inr rfl) (pe_op op_modN (pe_callTy call_int1 (by rfl) T.int (by decide +kernel) (pa_cons (pe_op op_addA (pe_dget hu (pv 0) pe_str (fun _ _ => rfl)) (pe_op op_mulA (pe_dget hu (pv 0) pe_str (fun _ _ => rfl)) pe_int)) pa_nil)) pe_int))
      (pss_cons (ps_set (i := 3) nd rfl (by first | exact Or.inl rfl | exact Or.inr rfl) (pe_op op_modN (pe_callTy call_int1 (by rfl) T.int (by decide +kernel) (pa_cons (pe_op op_addA (pe_op op_mulA (pv 3) (pv 3)) (pe_op op_mulA (pe_dget hu (pv 0) pe_str (fun _ _ => rfl)) pe_int)) pa_nil)) pe_int))
      (pss_cons (ps_dput hu (pv 0) pe_str (pv 3) rfl)
      (pss_one (ps_ret (pe_op op_modN (pe_callTy call_int1 (by rfl) T.int (by decide +kernel) (pa_cons (pe_op op_fdivG (pv 3) pe_int) pa_nil)) (pv 1))))))))))), ?_⟩
    have fin : ∀ (H2 : Hp) (kvs : List (Key × V)) (cells : List Int) (x m t : Int), SrcC p l H2 kvs cells x m t → Drw p l H H2 → ∀ r : Int, 0 ≤ r → r < max 1 many → Q (.int r) H2 := fun H2 kvs cells x m t s2 d2 r h0 h1 =>
      k _ _ _ (hR r h0 h1) (d2.gro j ⟨kvs, cells, x, m, t, s2⟩) (.int r)
    have hpos : 0 < max 1 many := by omega
    have hlog : (max 1 many).natAbs.log2 < 9000 := by
      have h1 : (max 1 many).natAbs.log2 < 64 := PySem.Flt.log2_lt_of (by decide) (show (max 1 many).natAbs < 2 ^ 64 by omega)
      omega
    -- the while
    refine while_at (fun m H' => Drw p l H H' ∧ ∃ kvs cells x mm t, SrcC p l H' kvs cells x mm t ∧ m = cells.length) ?_ ?_ ?_ ?_
    · obtain ⟨kvs, cells, x, mm, t, s⟩ := j.1
      exact ⟨cells.length, fun a o _ _ e => e, kvs, cells, x, mm, t, s, rfl⟩
    · rintro H1 ⟨m, dr, kvs, cells, x, mm, t, s, rfl⟩
      -- left = source['left']
      refine ⟨_, rfl, p, _, rfl, s.gL, ?_⟩
      refine ⟨_, rfl, _, _, rfl, rfl, _, rfl, ?_⟩
      by_cases c1 : many < 2
      · rw [decide_eq_true c1]
        refine iteT (iteT ?_)
        refine ⟨_, rfl, _, rfl, 1, many, rfl, x, _, rfl, rfl, ?d1, _, rfl, p, _, rfl, DPut.k (k := kLeft) s.hd (len100 s.hn), ?_⟩
        (case d1 => (rw [max_eq]; exact ⟨by omega, hlog⟩))
        refine ⟨_, rfl, .inl ⟨x, rfl, _, rfl, 1, many, rfl, x, _, rfl, rfl, ?d2, ?_⟩⟩
        (case d2 => (rw [max_eq]; exact (by omega : max 1 many ≠ 0)))
        rw [max_eq]
        exact fin _ _ _ _ _ _ (s.pL _) dr.put _ (Int.fmod_nonneg_of_pos _ hpos) (Int.fmod_lt_of_pos _ hpos)
      · rw [decide_eq_false c1]
        refine iteF ⟨_, rfl, _, _, rfl, rfl, _, rfl, ?_⟩
        by_cases c2 : 1 < x
        · rw [decide_eq_true c2]
          refine iteT ?_
          refine ⟨_, rfl, _, rfl, 1, many, rfl, x, _, rfl, rfl, ?d1, _, rfl, p, _, rfl, DPut.k (k := kLeft) s.hd (len100 s.hn), ?_⟩
          (case d1 => (rw [max_eq]; exact ⟨by omega, hlog⟩))
          refine ⟨_, rfl, .inl ⟨x, rfl, _, rfl, 1, many, rfl, x, _, rfl, rfl, ?d2, ?_⟩⟩
          (case d2 => (rw [max_eq]; exact (by omega : max 1 many ≠ 0)))
          rw [max_eq]
          exact fin _ _ _ _ _ _ (s.pL _) dr.put _ (Int.fmod_nonneg_of_pos _ hpos) (Int.fmod_lt_of_pos _ hpos)
        · rw [decide_eq_false c2]
          refine iteF ?_
          refine ⟨_, rfl, p, _, rfl, s.gT, .inl ⟨t, 1, rfl, rfl, _, rfl, p, _, rfl, DPut.k (k := kTurn) s.hd (len100 s.hn), ?_⟩⟩
          have s2 := s.pT (t + 1)
          refine ⟨_, rfl, p, _, rfl, s2.gM, _, rfl, p, _, rfl, s2.gT, .inl ⟨_, _, rfl, rfl, .inr (.inr ⟨by decide, by decide⟩), .inl ⟨_, _, rfl, rfl, .inl ⟨_, rfl, _, _, rfl, rfl, (show (998244353 : Int) ≠ 0 by decide), ?_⟩⟩⟩⟩
          have b1 := Int.fmod_nonneg_of_pos (mm + (t + 1) * 104729) (show (0 : Int) < 998244353 by decide)
          have b2 := Int.fmod_lt_of_pos (mm + (t + 1) * 104729) (show (0 : Int) < 998244353 by decide)
          refine ⟨_, rfl, _, rfl, .inl ⟨_, _, rfl, rfl, .inr (.inl ⟨by omega, by omega⟩), _, rfl, p, _, rfl, s2.gT, .inl ⟨_, _, rfl, rfl, .inr (.inr ⟨by decide, by decide⟩), .inl ⟨_, _, rfl, rfl, .inl ⟨_, rfl, _, _, rfl, rfl, (show (2147483647 : Int) ≠ 0 by decide), ?_⟩⟩⟩⟩⟩
          have b3 := Int.fmod_nonneg_of_pos ((mm + (t + 1) * 104729).fmod 998244353 * (mm + (t + 1) * 104729).fmod 998244353 + (t + 1) * 17) (show (0 : Int) < 2147483647 by decide)
          have b4 := Int.fmod_lt_of_pos ((mm + (t + 1) * 104729).fmod 998244353 * (mm + (t + 1) * 104729).fmod 998244353 + (t + 1) * 17) (show (0 : Int) < 2147483647 by decide)
          refine ⟨_, rfl, _, rfl, p, _, rfl, DPut.k (k := kMixed) s2.hd (len100 s2.hn), ?_⟩
          refine ⟨_, rfl, _, _, rfl, rfl, ⟨by decide, by decide⟩, .inl ⟨_, rfl, _, rfl, _, _, rfl, rfl, (show many ≠ 0 by omega), ?_⟩⟩
          have e : max 1 many = many := by omega
          refine fin _ _ _ _ _ _ (s2.pM _ ⟨by omega, by omega⟩) dr.put.put _ ?_ ?_
          · exact Int.fmod_nonneg_of_pos _ (by omega)
          · rw [e]; exact Int.fmod_lt_of_pos _ (by omega)
    · intro after m H1 ⟨dr, kvs, cells, x, mm, t, s, hm⟩
      subst hm
      have aft := after H1 ⟨_, dr, kvs, cells, x, mm, t, s, rfl⟩
      by_cases c1 : 1 < many
      · refine ⟨_, rfl, _, _, rfl, rfl, _, rfl, ?_⟩
        rw [decide_eq_true c1]
        refine iteT ⟨_, rfl, p, _, rfl, s.gL, _, _, rfl, rfl, _, rfl, ?_⟩
        by_cases c2 : x < 2
        · rw [decide_eq_true c2]
          refine iteT ⟨_, rfl, p, _, rfl, s.gC, l, _, rfl, .inl (SqL.of s.hl), _, _, rfl, rfl, _, rfl, ?_⟩
          by_cases c3 : (0 : Int) < ((cells.map V.int).length : Nat)
          · rw [decide_eq_true c3]
            refine iteT ?_
            obtain ⟨c, hc⟩ : ∃ c : Int, (cells.map V.int)[(cells.map V.int).length - 1]? = some (V.int c) := by
              rw [List.length_map] at c3 ⊢
              refine ⟨cells[cells.length - 1]'(by omega), ?_⟩
              rw [List.getElem?_map, List.getElem?_eq_getElem (by omega)]
              rfl
            refine ⟨_, rfl, p, _, rfl, s.gC, .inl ⟨rfl, _, SqL.of s.hl⟩, l, _, _, rfl, rfl, s.hl, hc, ?_⟩
            have s2 := s.pop
            refine ⟨_, rfl, p, _, rfl, DPut.k (k := kLeft) s2.hd (len100 s2.hn), rfl, cells.dropLast.length, ?_, dr.putl.put, _, _, _, _, _, s2.pL c, rfl⟩
            rw [List.length_dropLast]
            rw [List.length_map] at c3
            omega
          · rw [decide_eq_false c3]
            exact iteF aft
        · rw [decide_eq_false c2]
          exact iteF aft
      · refine ⟨_, rfl, _, _, rfl, rfl, _, rfl, ?_⟩
        rw [decide_eq_false c1]
        exact iteF aft
    · rintro σ H Q Q' hq ⟨a1, a2, i1, j1, b1, b2, k1, k2, h⟩
      refine ⟨a1, a2, i1, j1, b1, b2, k1, k2, ?_⟩
      cases k1 with
      | false => exact hq _ _ h
      | true =>
        obtain ⟨c1, c2, p1, v1, d1, d2, i2, j2, b3, b4, k3, k4, h⟩ := h
        refine ⟨c1, c2, p1, v1, d1, d2, i2, j2, b3, b4, k3, k4, ?_⟩
        cases k3 with
        | false => exact hq _ _ h
        | true =>
          obtain ⟨c3, c4, p2, v2, d3, d4, p3, ys, b5, b6, i3, j3, b7, b8, k5, k6, h⟩ := h
          exact ⟨c3, c4, p2, v2, d3, d4, p3, ys, b5, b6, i3, j3, b7, b8, k5, k6, hq _ _ h⟩
theorem ok_source {f : Addr} {fd : FuncData} (F : Fun K "_law_source" "_law_source" st_l_source f fd) (T : Tx mg) : FnOk P w K mg base CX0 1 f fd ["script"] (spSource K) := by
  have nd := sc_l_source.nd
  refine F.ok sc_l_source (fun vs H Q E h => ?_) (fun cdv A outer s H vs Q E hr h => ?_)
  · obtain ⟨a, ns, rfl, _⟩ := h
    rfl
  · obtain ⟨a, ns, rfl, hS, hn, k⟩ := h
    have hu := hu_of hr
    refine ⟨_, (pss_cons (ps_set (i := 1) nd rfl (Or.inl rfl) pe_int)
      (pss_cons (ps_for PassesOwn.never rfl (pi_list (pv 0)) (pg_name (i := 2) nd rfl (by first | exact Or.inl rfl | exact Or.inr rfl)) (pss_one (ps_set (i := 1) nd rfl (Or.inl rfl) (pe_op op_modN (pe_callTy call_int1 (by rfl) T.int (by decide +kernel) (pa_cons (pe_op op_addA (pe_op op_addA (pe_op op_mulA (pv 1) pe_int) (pe_op op_mulA (pv 2) pe_int)) pe_int) pa_nil)) pe_int))))
      (pss_one (ps_ret (pe_disp (pps_cons pe_str (pe_revL (pe_lc (own := [("cell", 2)]) rfl nd (pi_list (pv 0)) (blkOk_by (N := names_l_source) (sc := defScope st_l_source) (by decide +kernel)) (fun _ _ _ _ _ => (pg_name (i := 2) nd rfl (by first | exact Or.inl rfl | exact Or.inr rfl))) (fun _ _ _ _ _ => pts_nil) (fun _ _ _ _ _ => (pe_callB call_abs (by rfl) T.abs (by decide +kernel) (pa_cons (pv 2) pa_nil)))))
        (pps_cons pe_str pe_int (pps_cons pe_str (pv 1) (pps_cons pe_str pe_int pps_nil)))) (by rfl) (by rfl) (fun z => by cases z) (by decide)))))), ?_⟩
    refine ⟨_, rfl, a, rfl, ⟨_, hS⟩, for_list (K := K) (a := a) (xs := ns.map V.int) (fun i σ H2 => ∃ (m : Int) (v : Option V), σ = [some (.ref a), some (.int m), v] ∧ (-(2 ^ 64) < m ∧ m < 2 ^ 64) ∧ H2 = H) ⟨11, none, rfl, ⟨by decide, by decide⟩, rfl⟩ (fun i σ H2 _ ⟨_, _, _, _, e⟩ => by rw [e]; exact hS) ?_ ?_⟩
    · rintro i y σ H2 hi ⟨m, v, rfl, hb, rfl⟩
      obtain ⟨c, rfl⟩ : ∃ c, y = V.int c := by
        rw [List.getElem?_map] at hi
        cases e : ns[i]? with
        | none => rw [e] at hi; cases hi
        | some z => rw [e] at hi; exact ⟨z, (Option.some.inj hi).symm⟩
      refine ⟨_, rfl, .inl ⟨_, _, rfl, rfl, .inr (.inl hb), _, rfl, .inl ⟨_, _, rfl, rfl, .inr (.inr ⟨by decide, by decide⟩), .inl ⟨_, _, rfl, rfl, .inl ⟨_, _, rfl, rfl, .inl ⟨_, rfl, _, _, rfl, rfl, (show (2147483629 : Int) ≠ 0 by decide), ?_⟩⟩⟩⟩⟩⟩
      have b1 := Int.fmod_nonneg_of_pos (m * 69069 + c * 31 + 5) (show (0 : Int) < 2147483629 by decide)
      have b2 := Int.fmod_lt_of_pos (m * 69069 + c * 31 + 5) (show (0 : Int) < 2147483629 by decide)
      exact ⟨_, _, rfl, ⟨by omega, by omega⟩, rfl⟩
    · rintro σ H2 ⟨m, v, rfl, hb, rfl⟩
      intro p hp
      have sH : Same H2 (upd H2 p (.dK [])) := fun b o e => by rw [upd_ne (ne_of_none e hp)]; exact e
      refine ⟨_, rfl, a, rfl, ⟨_, sH.seq hS⟩, fun D hD => ?_⟩
      have npD : D ≠ p := fun z => by rw [z, upd_same] at hD; cases hD
      have hD0 : H2 D = none := by rw [upd_ne npD] at hD; exact hD
      refine lc_list (K := K) (a := a) (xs := ns.map V.int) (fun i H3 => Same H2 H3 ∧ H3 p = some (.dK []) ∧ ∃ cs : List Int, H3 D = some (.lst (cs.map V.int)) ∧ cs.length = i) ⟨fun b o e => ?_, ?_, [], upd_same, rfl⟩ (fun i H3 _ ⟨sm, _⟩ => sm.seq hS) (fun i x H3 hi ⟨sm, ep, cs, ed, hl⟩ => ?_) ?_
      · rw [upd_ne (ne_of_none e hD0)]; exact sH b o e
      · rw [upd_ne npD.symm]; exact upd_same
      · obtain ⟨c, rfl⟩ : ∃ c, x = V.int c := by
          rw [List.getElem?_map] at hi
          cases e : ns[i]? with
          | none => rw [e] at hi; cases hi
          | some z => rw [e] at hi; exact ⟨z, (Option.some.inj hi).symm⟩
        have hi2 : i < ns.length := by
          have := (List.getElem?_eq_some_iff.mp hi).1
          rwa [List.length_map] at this
        refine ⟨rfl, ?_⟩
        refine ⟨_, rfl, c, rfl, _, ed, ?_, fun b o e => ?_, ?_, cs ++ [if c < 0 then -c else c], ?_, ?_⟩
        · rw [List.length_map, hl]; exact Nat.lt_of_lt_of_le (Nat.lt_of_lt_of_le hi2 hn) (by decide)
        · rw [upd_ne (ne_of_none e hD0)]; exact sm b o e
        · rw [upd_ne npD.symm]; exact ep
        · rw [upd_same, List.map_append]; rfl
        · rw [List.length_append, List.length_singleton, hl]
      · rintro H3 ⟨sm, ep, cs, ed, hl⟩
        refine ⟨D, _, rfl, SqL.of ed, fun l hl2 => ?_⟩
        have nlp : l ≠ p := fun z => by rw [z, ep] at hl2; cases hl2
        refine ⟨_, rfl, ?_⟩
        refine ⟨by rw [upd_ne nlp.symm]; exact ep, [(kCells, .ref l), (kLeft, .int 1), (kMixed, .int m), (kTurn, .int 0)], rfl, (show 4 ≤ 15 by decide), ?_⟩
        rw [merge4]
        refine k p l _ (fun b o e => ?_) hp (sm.free hl2) ⟨_, cs.reverse, 1, m, 0, upd_same, (show 4 ≤ 100 by decide), valV_pos rfl, by rw [valV_neg k1, valV_pos rfl], by rw [valV_neg k7, valV_neg k8, valV_pos rfl], by rw [valV_neg k4, valV_neg k5, valV_neg k6, valV_pos rfl], ?_, hb⟩
        · rw [upd_ne (ne_of_none e hp), upd_ne (ne_of_none (sm b o e) hl2)]; exact sm b o e
        · rw [upd_ne nlp, upd_same, List.map_reverse]
end
end E3
end
section
set_option Elab.async false
set_option linter.all false
set_option maxRecDepth 100000
set_option maxHeartbeats 0
namespace E3
open PySem L2 PySem.Spec PyProof.Rows Dl RZ Ev
local macro_rules | `(tactic| walk_at "dl") => `(tactic| first
  | ((with_reducible refine ew_varE ?_); refine ⟨_, rfl, ?_⟩)
  | ((with_reducible refine ew_int ?_))
  | ((with_reducible refine ew_str ?_))
  | ((with_reducible refine ew_bl ?_))
  | ((with_reducible refine ew_non ?_))
  | ((with_reducible refine ew_op ?_))
  | ((with_reducible refine ew_un ?_))
  | ((with_reducible refine ew_tup ?_))
  | ((with_reducible refine ew_lst ?_))
  | ((with_reducible refine ew_call ?_))
  | ((with_reducible refine ew_isi ?_))
  | ((with_reducible refine ew_cb ?_))
  | ((with_reducible refine ea_nil ?_))
  | ((with_reducible refine ea_rawE ?_); refine ⟨_, rfl, ?_⟩)
  | ((with_reducible refine ea_cons ?_))
  | ((with_reducible refine AllD.nil ?_))
  | ((with_reducible refine AllD.cons ?_))
  | ((with_reducible refine ew_if ?_))
  | ((with_reducible refine ew_isN ?_))
  | ((with_reducible refine ew_sl ?_))
  | ((with_reducible refine eo_none ?_))
  | ((with_reducible refine eo_some ?_))
  | ((with_reducible refine sd_list ?_); refine ⟨_, rfl, ?_⟩)
  | ((with_reducible refine sd_tup ?_); refine ⟨_, rfl, ?_⟩)
  | ((with_reducible refine tw_test ?_))
  | ((with_reducible refine tw_B ?_))
  | ((with_reducible refine tw_not ?_))
  | ((with_reducible refine tw_and ?_))
  | ((with_reducible refine tw_or ?_))
  | ((with_reducible refine ew_andV ?_))
  | ((with_reducible refine ew_orV ?_))
  | ((with_reducible refine ew_notV ?_))
  | ((with_reducible refine sw_seq ?_))
  | ((with_reducible refine sw_if ?_))
  | ((with_reducible refine sw_ret ?_))
  | ((with_reducible refine sw_set ?_))
  | ((with_reducible refine sw_par ?_))
  | ((with_reducible refine sw_nx ?_))
  | ((with_reducible refine od_ix ?_); refine ⟨_, _, _, rfl, rfl, rfl, ?_⟩)
  | ((with_reducible refine od_mulI ?_); refine ⟨_, _, rfl, rfl, ?_, ?_⟩)
  | ((with_reducible refine od_mulNI ?_); refine ⟨_, _, rfl, rfl, ?_, ?_⟩)
  | ((with_reducible refine od_addI ?_); refine ⟨_, _, rfl, rfl, ?_⟩)
  | ((with_reducible refine od_addL ?_); refine ⟨_, _, rfl, rfl, ?_, ?_⟩)
  | ((with_reducible refine od_addT ?_); refine ⟨_, _, rfl, rfl, ?_, ?_⟩)
  | ((with_reducible refine od_I0 ?_); refine ⟨_, _, rfl, rfl, ?_⟩)
  | ((with_reducible refine od_B0 ?_); refine ⟨_, _, rfl, rfl, ?_⟩)
  | ((with_reducible refine od_I ?_); refine ⟨_, _, rfl, rfl, ?_, ?_⟩)
  | ((with_reducible refine ud_I ?_); refine ⟨_, rfl, ?_⟩)
  | ((with_reducible refine od_eqI' ?_))
  | ((with_reducible refine od_neI' ?_))
  | ((with_reducible refine od_eqS' ?_))
  | ((with_reducible refine od_neS' ?_))
  | ((with_reducible refine cd_gcd ?_); refine ⟨_, _, rfl, ?_⟩)
  | ((with_reducible refine cd_lcm ?_); refine ⟨_, _, rfl, ?_, ?_, ?_⟩)
  | ((with_reducible refine qAbs ?_); refine ⟨_, rfl, ?_⟩)
  | ((with_reducible refine qInt ?_); refine ⟨_, rfl, ?_⟩)
  | ((with_reducible refine qLen ?_); refine ⟨_, _, rfl, rfl, ?_⟩)
  | ((with_reducible refine qTup ?_); refine ⟨_, _, rfl, rfl, ?_⟩)
  | ((with_reducible refine qLst ?_); refine ⟨_, _, rfl, rfl, ?_⟩)
  | ((with_reducible refine cd_anyT ?_); refine ⟨_, rfl, ?_⟩)
  | ((with_reducible refine cd_sum ?_); refine ⟨_, rfl, ?_⟩)
  | ((with_reducible refine qIntB ?_); refine ⟨_, rfl, ?_⟩)
  | ((with_reducible refine qMax2 ?_); refine ⟨_, _, rfl, ?_⟩)
  | ((with_reducible refine cd_all ?_); refine ⟨_, rfl, ?_⟩)
  | ((with_reducible refine ex_b ?_))
  | ((with_reducible refine ex_i ?_))
  | ((with_reducible refine ex_t ?_))
  | ((with_reducible refine ex_l ?_))
  | ((with_reducible refine ex_2 ?_))
  | ((with_reducible refine pick_atE ?_); refine ⟨by decide, fun r h0 h1 => ?_⟩)
  | ((with_reducible refine great_atE ?_); refine ⟨_, rfl, by decide, by decide, fun n h0 h1 => ?_⟩)
  | ((with_reducible refine len_and ?_ ?_); exact Nat.le_of_ble_eq_true rfl)
  | ((with_reducible refine own_and ?_ ?_); rfl))
section
variable {P : Program} {w : World} {K : PySem.W.Frag} {mg : Str → Option Value} {base : Heap}
theorem ok_fraction_of {f : Addr} {fd : FuncData} (F : Fun K "fraction_of" "fraction_of" st_fraction_of f fd) (T : Tx mg) : FnOk P w K mg base CX0 1 f fd ["p", "q"] (spG mFr) := by
  have nd := sc_fraction_of.nd
  refine fn_dl F sc_fraction_of (fun B es R ⟨p, q, e, _⟩ => by rw [e]; rfl) fun cdv A outer s H E hr B es R hm => ?_
  obtain ⟨p, q, rfl, h0, h9, hR⟩ := hm
  refine ⟨_, (pss_cons (ps_if (pt_cmpR op_lt (pv 1) pe_int (nomark _)) (pss_one (ps_par (i := 0) (j := 1) (by rfl) nd rfl rfl (by decide) rfl rfl (pa_cons (pe_un un_neg (pv 0)) (pa_cons (pe_un un_neg (pv 1)) pa_nil)) (by rfl))) pss_nil)
      (pss_cons (ps_set (i := 2) nd rfl (by first | exact Or.inl rfl | exact Or.inr rfl) (pe_callBfun cr_gcd (by rfl) T.gcd (pa_cons (pv 0) (pa_cons (pv 1) pa_nil))))
      (pss_one (ps_ret (pe_tup (pa_cons (pe_op op_fdivG (pv 0) (pv 2)) (pa_cons (pe_op op_fdivG (pv 1) (pv 2)) pa_nil))))))), ?_⟩
  show SW B [.dat (.int p), .dat (.int q), .non] _ _
  repeat' walk_at "dl"
  refine ite2 (fun hq => ?_) (fun hq => ?_)
  all_goals (repeat' walk_at "dl")
  · have e := of_decide_eq_true hq
    have g0 := gc_pos (a := p) (b := q) h0
    show CDivG _ (gc (-p) (-q))
    rw [gc_neg]
    exact (gc_bit h0 h9).divOk (by omega) (by omega)
  · have g0 := gc_pos (a := p) (b := q) h0
    show CDivG _ (gc (-p) (-q))
    rw [gc_neg]
    exact (gc_bit h0 h9).divOk (by omega) (by omega)
  · have e := lst_neg (p := p) (q := q) (of_decide_eq_true hq)
    rw [← e] at hR
    exact hR
  · have g0 := gc_pos (a := p) (b := q) h0
    exact (gc_bit (a := p) h0 h9).divOk (x := p) (by omega) (by omega)
  · have g0 := gc_pos (a := p) (b := q) h0
    exact (gc_bit (a := p) h0 h9).divOk (x := q) (by omega) (by omega)
  · have hq' : ¬ q < 0 := fun z => hq (decide_eq_true z)
    rw [lst_pos (by omega)] at hR
    exact hR
theorem ok_l_least {f : Addr} {fd : FuncData} (F : Fun K "_law_least" "_law_least" st_l_least f fd) (T : Tx mg)   : FnOk P w K mg base CX0 1 f fd ["a", "b"] (spG mLeast) := by
  have nd := sc_l_least.nd
  refine fn_dl F sc_l_least (fun B es R ⟨p, q, e, _⟩ => by rw [e]; rfl) fun cdv A outer s H E hr B es R hm => ?_
  have hu := hu_of hr
  have hu64 := hr.units
  obtain ⟨p, q, rfl, h0, h9, hR⟩ := hm
  refine ⟨_, (pss_cons (ps_par (i := 2) (j := 3) (by rfl) nd rfl rfl (by decide) rfl rfl (pa_cons (pe_callB kAbs (by rfl) T.abs (by decide +kernel) (pa_cons (pv 0) pa_nil)) (pa_cons (pe_callB kAbs (by rfl) T.abs (by decide +kernel) (pa_cons (pv 1) pa_nil)) pa_nil)) (by rfl))
      (pss_cons (ps_while PassesOwn.never (pt_cmpR (kNe (K := K) rfl hu64) (pv 3) pe_int (nomark _)) (pss_one (ps_par (i := 2) (j := 3) (by rfl) nd rfl rfl (by decide) rfl rfl (pa_cons (pv 3) (pa_cons (pe_op op_modN (pe_callTy kInt (by rfl) T.int (by decide +kernel) (pa_cons (pv 2) pa_nil)) (pv 3)) pa_nil)) (by rfl))))
      (pss_cons (ps_set (i := 2) nd rfl (by first | exact Or.inl rfl | exact Or.inr rfl) (pe_ifExp (pt_cmpR op_gt (pv 1) pe_int (nomark _)) (pv 2) (pe_op op_sub pe_int (pv 2))))
      (pss_one (ps_ret (pe_tup (pa_cons (pe_op op_fdivG (pv 0) (pv 2)) (pa_cons (pe_op op_fdivG (pv 1) (pv 2)) pa_nil)))))))), ?_⟩
  show SW B [.dat (.int p), .dat (.int q), .non, .non] _ _
  repeat' walk_at "dl"
  refine sw_while ⟨fun m e => ∃ x y : Nat, e = [.dat (.int p), .dat (.int q), .dat (.int x), .dat (.int y)] ∧ Nat.gcd x y = Nat.gcd p.natAbs q.natAbs ∧ m = y, ⟨q.natAbs, p.natAbs, q.natAbs, ?_, rfl, rfl⟩, ?_⟩
  · rw [abs_eq, abs_eq]
    rfl
  · rintro y e ⟨x, _, rfl, hg, rfl⟩
    repeat' walk_at "dl"
    refine ite2 (fun hc => ?_) (fun hc => ?_)
    all_goals repeat' walk_at "dl"
    · intro z
      have : y ≠ 0 := fun z => by subst z; simp at hc
      exact this (by omega)
    · have hy : 0 < y := by
        cases y with
        | zero => simp at hc
        | succ y => exact Nat.succ_pos y
      refine ⟨x % y, Nat.mod_lt _ hy, y, x % y, ?_, ?_, rfl⟩
      · have e : (x : Int).fmod (y : Int) = ((x % y : Nat) : Int) := by
          rw [Int.fmod_eq_emod_of_nonneg _ (by omega), Int.natCast_emod]
        rw [e]
        rfl
      · rw [← hg, Nat.gcd_comm x y, Nat.gcd_comm y (x % y), ← Nat.gcd_rec]
    · have hy : y = 0 := by
        have := hc
        simp at this
        omega
      subst hy
      rw [Nat.gcd_zero_right] at hg
      subst hg
      refine ite2 (fun hb => ?_) (fun hb => ?_)
      all_goals repeat' walk_at "dl"
      · have g0 := gc_pos (a := p) (b := q) h0
        exact (gc_bit (a := p) h0 h9).divOk (x := p) (by omega) (by omega)
      · have g0 := gc_pos (a := p) (b := q) h0
        exact (gc_bit (a := p) h0 h9).divOk (x := q) (by omega) (by omega)
      · have := of_decide_eq_true hb
        unfold lst at hR
        rw [if_pos this] at hR
        exact hR
      · have g0 := gc_pos (a := p) (b := q) h0
        refine (Bit.neg (gc_bit (a := p) h0 h9)).divOk' (x := p) (by show 0 - gc p q ≠ 0; omega) (by show 0 - gc p q = - gc p q; omega) (by omega)
      · have g0 := gc_pos (a := p) (b := q) h0
        refine (Bit.neg (gc_bit (a := p) h0 h9)).divOk' (x := q) (by show 0 - gc p q ≠ 0; omega) (by show 0 - gc p q = - gc p q; omega) (by omega)
      · have : ¬ 0 < q := fun z => hb (decide_eq_true z)
        unfold lst at hR
        rw [if_neg this] at hR
        exact hR

theorem ok_l_plus {f : Addr} {fd : FuncData} (F : Fun K "_law_plus" "_law_plus" st_l_plus f fd) (T : Tx mg) (c_l_least : Has P w K mg base "_law_least" 1 ["a", "b"] (spG mLeast))  : FnOk P w K mg base CX0 2 f fd ["x", "y"] (spG (mBin pl)) := by
  have nd := sc_l_plus.nd
  refine fn_dl F sc_l_plus (fun B es R ⟨x, y, e, _⟩ => by rw [e]; rfl) fun cdv A outer s H E hr B es R hm => ?_
  have hu := hu_of hr
  have hu64 := hr.units
  obtain ⟨x, y, rfl, hx, hy, hR⟩ := hm
  refine ⟨_, (pss_one (ps_ret (c_l_least.call hr (pa_cons (pe_op (kAdd (K := K) rfl) (pe_op (kMul (K := K) rfl) (pe_ix (kIx (K := K) rfl) (pv 0) pe_int (fun _ _ => rfl)) (pe_ix (kIx (K := K) rfl) (pv 1) pe_int (fun _ _ => rfl))) (pe_op (kMul (K := K) rfl) (pe_ix (kIx (K := K) rfl) (pv 1) pe_int (fun _ _ => rfl)) (pe_ix (kIx (K := K) rfl) (pv 0) pe_int (fun _ _ => rfl)))) (pa_cons (pe_op (kMul (K := K) rfl) (pe_ix (kIx (K := K) rfl) (pv 0) pe_int (fun _ _ => rfl)) (pe_ix (kIx (K := K) rfl) (pv 1) pe_int (fun _ _ => rfl))) pa_nil))))), ?_⟩
  show SW B [.dat (frD x), .dat (frD y)] _ _
  repeat' walk_at "dl"
  all_goals first
    | exact hx.b1.mulOk hy.b2 (by decide)
    | exact hx.b2.mulOk hy.b2 (by decide)
    | exact hy.b1.mulOk hx.b2 (by decide)
    | exact least_at (mul_ne hx.pos (by have := hy.pos; omega)) ((hx.b2.mul hy.b2).mono (by decide)) hR

theorem ok_l_great {f : Addr} {fd : FuncData} (F : Fun K "_law_great" "_law_great" st_l_great f fd) (T : Tx mg) (c_l_pick : Has P w K mg base "_law_pick" 1 ["source", "many"] (spG mPick))  : FnOk P w K mg base CX0 2 f fd ["source", "figures"] (spG mGreat) := by
  have nd := sc_l_great.nd
  refine fn_dl F sc_l_great (fun B es R ⟨p, l, k, _, e, _⟩ => by rw [e]; rfl) fun cdv A outer s H E hr B es R hm => ?_
  have hu := hu_of hr
  have hu64 := hr.units
  obtain ⟨p, l, k, rfl, rfl, hk1, hk2, hR⟩ := hm
  refine ⟨_, (pss_cons (ps_set (i := 2) nd rfl (by first | exact Or.inl rfl | exact Or.inr rfl) pe_int)
      (pss_cons (ps_for PassesOwn.never rfl (pi_range1 (by rfl) T.range (pa_cons (pe_op (kAdd (K := K) rfl) pe_int (c_l_pick.call hr (pa_cons (pv 0) (pa_cons (pv 1) pa_nil)))) pa_nil)) (pg_name (i := 3) nd rfl (by first | exact Or.inl rfl | exact Or.inr rfl)) (pss_one (ps_set (i := 2) nd rfl (by first | exact Or.inl rfl | exact Or.inr rfl) (pe_op (kAdd (K := K) rfl) (pe_op (kMul (K := K) rfl) (pv 2) pe_int) (c_l_pick.call hr (pa_cons (pv 0) (pa_cons pe_int pa_nil)))))))
      (pss_one (ps_ret (pv 2))))), ?_⟩
  show SW (Fsrc p l) [.raw (.ref p), .dat (.int k), .non, .non] _ _
  repeat' walk_at "dl"
  refine sw_for (it_range1 ?_)
  repeat' walk_at "dl"
  refine pick_at (by omega) fun r h0 h1 => ?_
  repeat' walk_at "dl"
  refine ⟨_, rfl, by omega, by omega, fun i e => ∃ (n : Int) (z : Ent), e = [.raw (.ref p), .dat (.int k), .dat (.int n), z] ∧ 0 ≤ n ∧ Bit (4 * i) n, ⟨0, .non, rfl, by decide, by unfold Bit; decide⟩, ?_, ?_⟩
  · rintro i d e hd ⟨n, z, rfl, hn, hb⟩
    refine gw_name ?_
    repeat' walk_at "dl"
    · exact .inr (.inr ⟨by decide, by decide⟩)
    · refine ⟨_, _, rfl, by omega, ?_⟩
      rename_i r2 h2 h3
      unfold Bit at *
      rw [show 4 * (i + 1) = 4 * i + 4 by omega, Nat.pow_add]
      have e10 : max 1 (10 : Int) = 10 := by decide
      rw [e10] at h3
      omega
  · rintro e ⟨n, z, rfl, hn, hb⟩
    repeat' walk_at "dl"
    refine hR n hn (hb.mono ?_)
    have hl : (rangeD 0 (1 + r).toNat).length = (1 + r).toNat := by simp [rangeD]
    rw [hl]
    omega

theorem ok_l_of {f : Addr} {fd : FuncData} (F : Fun K "_law_of" "_law_of" st_l_of f fd) (T : Tx mg) (c_l_pick : Has P w K mg base "_law_pick" 1 ["source", "many"] (spG mPick))  : FnOk P w K mg base CX0 2 f fd ["source", "some"] (spG mOf) := by
  have nd := sc_l_of.nd
  refine fn_dl F sc_l_of (fun B es R ⟨p, l, k, _, e, _⟩ => by rw [e]; rfl) fun cdv A outer s H E hr B es R hm => ?_
  have hu := hu_of hr
  have hu64 := hr.units
  obtain ⟨p, l, ds, rfl, rfl, h0, h1, hR⟩ := hm
  refine ⟨_, (pss_one (ps_ret (pe_ix (kIx (K := K) rfl) (pv 1) (c_l_pick.call hr (pa_cons (pv 0) (pa_cons (pe_callB (kLen (K := K) rfl) (by rfl) T.len (by decide +kernel) (pa_cons (pv 1) pa_nil)) pa_nil))) (fun _ _ => rfl)))), ?_⟩
  show SW (Fsrc p l) [.raw (.ref p), .dat (.list ds)] _ _
  repeat' walk_at "dl"
  have hl : 0 < ds.length := List.length_pos_iff.mpr h0
  refine pick_at (by omega) fun r g0 g1 => ?_
  have hr2 : r.toNat < ds.length := by omega
  have er : r = ((r.toNat : Nat) : Int) := by omega
  exact od_ix ⟨ds, r, ds[r.toNat], rfl, rfl, atD er (List.getElem?_eq_getElem hr2), hR _ (List.getElem_mem hr2)⟩

theorem ok_l_mixed {f : Addr} {fd : FuncData} (F : Fun K "_law_mixed" "_law_mixed" st_l_mixed f fd) (T : Tx mg) (c_l_pick : Has P w K mg base "_law_pick" 1 ["source", "many"] (spG mPick)) : FnOk P w K mg base CX0 2 f fd ["source", "things"] (spG mMixed) := by
  have nd := sc_l_mixed.nd
  refine F.ok sc_l_mixed (fun vs H Q E h => ?_) (fun cdv A outer s H vs Q E hr h => ?_)
  · obtain ⟨B, O, es, R, ⟨p, l, ds, rfl, rfl, _⟩, _, _, sl, _⟩ := h
    match vs, sl with
    | [_, _], _ => rfl
  · obtain ⟨B, O, es, R, ⟨p, l, ds, rfl, rfl, hlen, hR⟩, _, j, sl, k⟩ := h
    have hu := hu_of hr
    have hu64 := hr.units
    obtain ⟨a, xs, rfl, wa, ea, ka⟩ : ∃ a xs, vs = [.ref p, .ref a] ∧ ¬ ((Fsrc p l).lock O).W a ∧ H a = some (.lst xs) ∧ DqA ((Fsrc p l).lock O).W H xs ds := by
      match vs, sl with
      | [x, b], sl =>
        obtain ⟨c1, ⟨v, c2, c3⟩, _⟩ := sl
        cases c1
        cases c2
        cases c3 with
        | lst w e k => exact ⟨_, _, rfl, w, e, k⟩
    refine ⟨_, (pss_cons (ps_set (i := 2) nd rfl (by first | exact Or.inl rfl | exact Or.inr rfl) (pe_callTy (kLst (K := K) rfl) (by rfl) T.list (by decide +kernel) (pa_cons (pv 1) pa_nil)))
      (pss_one (ps_ret (pe_lc (own := [("lap", 3)]) rfl nd (pi_range1 (by rfl) T.range (pa_cons (pe_callB (kLen (K := K) rfl) (by rfl) T.len (by decide +kernel) (pa_cons (pv 2) pa_nil)) pa_nil)) (blkOk_by (N := names_l_mixed) (sc := defScope st_l_mixed) (by decide +kernel)) (fun _ _ _ _ _ => (pg_name (i := 3) nd rfl (by first | exact Or.inl rfl | exact Or.inr rfl))) (fun _ _ _ _ _ => pts_nil) (fun _ _ _ _ _ => (kBm (K := K) rfl PySem.F.plainAttrs_list PySem.F.slot_list_pop PySem.F.type_list_pop mt_popAt (pv 2) (pa_cons (c_l_pick.call hr (pa_cons (pv 0) (pa_cons (pe_callB (kLen (K := K) rfl) (by rfl) T.len (by decide +kernel) (pa_cons (pv 2) pa_nil)) pa_nil))) pa_nil))))))), ?_⟩
    refine ⟨_, rfl, a, xs, rfl, .inl (SqL.of ea), fun r hr0 => ?_⟩
    have lx := ka.len
    have npl : ∀ b, b = p ∨ b = l → H b ≠ none := fun b z => (Fsrc p l).dom H b j.1 z
    have nr : ∀ b, H b ≠ none → b ≠ r := fun b z e => z (by rw [e]; exact hr0)
    have srcU : ∀ (H1 : Hp) (b : Addr) (o : HO), H b = none → Src p l H1 → Src p l (upd H1 b o) := fun H1 b o hb s1 => (Fsrc p l).loc H1 _ (fun c z => upd_ne (fun e => npl c z (by rw [e]; exact hb))) s1
    refine ⟨_, rfl, r, xs, rfl, .inl (SqL.of upd_same), _, rfl, by omega, by rw [lx]; omega, fun D hD => ?_⟩
    have nDr : D ≠ r := fun z => by rw [z, upd_same] at hD; cases hD
    have hD0 : H D = none := by rw [upd_ne nDr] at hD; exact hD
    rw [show ((xs.length : Nat) : Int).toNat = xs.length from Int.toNat_natCast _]
    refine lc_range (lo := 0) (n := xs.length) (fun i H' => ∃ vs acc dv da, H' r = some (.lst vs) ∧ H' D = some (.lst acc) ∧ DqA ((Fsrc p l).lock O).W H vs dv ∧ DqA ((Fsrc p l).lock O).W H acc da ∧ (da ++ dv).Perm ds ∧ da.length = i ∧ Drw p l H H' ∧ Src p l H') ?_ ?_ ?_
    · exact ⟨xs, [], ds, [], by rw [upd_ne nDr.symm]; exact upd_same, upd_same, ka, .nil, .refl _, rfl, fun b o _ _ e => by rw [upd_ne (ne_of_none e hD0), upd_ne (ne_of_none e hr0)]; exact e, srcU _ D _ hD0 (srcU _ r _ hr0 j.1)⟩
    · rintro i H' hi ⟨vs, acc, dv, da, er, eD, kv, kc, hp, hl, dr, sr⟩
      refine ⟨rfl, ?_⟩
      have lv := kv.len
      have lc := kc.len
      have lp : da.length + dv.length = ds.length := by rw [← List.length_append]; exact hp.length_eq
      have hv : 0 < vs.length := by omega
      let O2 : Lk := fun b => if b = r then some (.lst vs) else if b = D then some (.lst acc) else O b
      have o2r : O2 r = some (.lst vs) := if_pos rfl
      have o2D : O2 D = some (.lst acc) := by show (if D = r then _ else _) = _; rw [if_neg nDr, if_pos rfl]
      have j2 : ((Fsrc p l).lock O2).J H' := ⟨sr, fun b o e => by
        by_cases h1 : b = r
        · subst h1
          rw [o2r] at e
          cases e
          exact ⟨fun z => npl b z hr0, er⟩
        · by_cases h2 : b = D
          · subst h2
            rw [o2D] at e
            cases e
            exact ⟨fun z => npl b z hD0, eD⟩
          · have e' : O b = some o := by
              have : O2 b = O b := by show (if b = r then _ else _) = _; rw [if_neg h1, if_neg h2]
              rw [this] at e
              exact e
            exact ⟨(j.2 b o e').1, dr b o (fun z => (j.2 b o e').1 (.inl z)) (fun z => (j.2 b o e').1 (.inr z)) (j.2 b o e').2⟩⟩
      refine ⟨_, rfl, .inl ⟨rfl, _, SqL.of er⟩, _, rfl, _, rfl, r, vs, rfl, .inl (SqL.of er), ?_⟩
      refine ⟨Fsrc p l, O2, [.raw (.ref p), .dat (.int vs.length)], fun d => ∃ z : Int, d = .int z ∧ 0 ≤ z ∧ z < max 1 ((vs.length : Nat) : Int), ⟨p, l, _, rfl, rfl, by omega, fun z h0 h1 => ⟨z, rfl, h0, h1⟩⟩, rfl, j2, ⟨rfl, ⟨_, rfl, .int _⟩, trivial⟩, ?_⟩
      rintro d v H2 ⟨z, rfl, z0, z1⟩ g kd
      cases kd
      have er2 := (g.2.2 r _ o2r).2
      have eD2 := (g.2.2 D _ o2D).2
      have hz : z.toNat < vs.length := by omega
      have hz2 : z.toNat < dv.length := by omega
      obtain ⟨y, ey⟩ : ∃ y, vs[z.toNat]? = some y := ⟨_, List.getElem?_eq_getElem hz⟩
      obtain ⟨dd, ed, ky⟩ := kv.getV ey
      have hix : seqIndex? z vs.length = some z.toNat := (ixN_seq (n := vs.length) (i := z) (j := z.toNat) (by unfold ixN; rw [if_pos z0, if_pos (by omega)])).1
      refine ⟨r, vs, z, z.toNat, y, rfl, rfl, er2, by omega, by omega, hix, ey, ?_⟩
      refine ⟨acc, by rw [upd_ne nDr]; exact eD2, by rw [lc]; exact Nat.lt_of_le_of_lt (show da.length ≤ 10000 by omega) (by decide), vs.eraseIdx z.toNat, acc ++ [y], dv.eraseIdx z.toNat, da ++ [dd], ?_, upd_same, kv.eraseIdx _, kc.append (.cons ky .nil), (perm_step ed).trans hp, by rw [List.length_append, List.length_singleton, hl], fun b o h1 h2 e => ?_, ?_⟩
      · rw [upd_ne nDr.symm]; exact upd_same
      · rw [upd_ne (ne_of_none e hD0), upd_ne (ne_of_none e hr0)]
        have o2b : O2 b = O b := by show (if b = r then _ else _) = _; rw [if_neg (ne_of_none e hr0), if_neg (ne_of_none e hD0)]
        cases q : O b with
        | none => exact g.1 b o (fun w2 => w2.elim (fun w3 => w3.elim h1 h2) fun w3 => w3 (o2b.trans q)) (dr b o h1 h2 e)
        | some o' =>
          have e2 := (j.2 b o' q).2
          rw [e] at e2
          cases e2
          exact (g.2.2 b o (o2b.trans q)).2
      · exact srcU _ D _ hD0 (srcU _ r _ hr0 g.2.1)
    · rintro H' ⟨vs, acc, dv, da, er, eD, kv, kc, hp, hl, dr, sr⟩
      have lp : da.length + dv.length = ds.length := by rw [← List.length_append]; exact hp.length_eq
      have hd0 : dv = [] := List.length_eq_zero_iff.mp (by omega)
      subst hd0
      rw [List.append_nil] at hp
      have g : Gro ((Fsrc p l).lock O) H H' := dr.gro j sr
      exact k _ _ H' (hR da hp) g (.lst (Fr.fresh j hD0) eD (kc.gro g))
end
end E3
end
section
set_option Elab.async false
set_option linter.all false
set_option maxRecDepth 100000
set_option maxHeartbeats 0
namespace E3
open PySem L2 PySem.Spec PyProof.Rows Dl RZ Ev
local macro_rules | `(tactic| walk_at "dl") => `(tactic| first
  | ((with_reducible refine ew_varE ?_); refine ⟨_, rfl, ?_⟩)
  | ((with_reducible refine ew_int ?_))
  | ((with_reducible refine ew_str ?_))
  | ((with_reducible refine ew_bl ?_))
  | ((with_reducible refine ew_non ?_))
  | ((with_reducible refine ew_op ?_))
  | ((with_reducible refine ew_un ?_))
  | ((with_reducible refine ew_tup ?_))
  | ((with_reducible refine ew_lst ?_))
  | ((with_reducible refine ew_call ?_))
  | ((with_reducible refine ew_isi ?_))
  | ((with_reducible refine ew_cb ?_))
  | ((with_reducible refine ea_nil ?_))
  | ((with_reducible refine ea_rawE ?_); refine ⟨_, rfl, ?_⟩)
  | ((with_reducible refine ea_cons ?_))
  | ((with_reducible refine AllD.nil ?_))
  | ((with_reducible refine AllD.cons ?_))
  | ((with_reducible refine ew_if ?_))
  | ((with_reducible refine ew_isN ?_))
  | ((with_reducible refine ew_sl ?_))
  | ((with_reducible refine eo_none ?_))
  | ((with_reducible refine eo_some ?_))
  | ((with_reducible refine sd_list ?_); refine ⟨_, rfl, ?_⟩)
  | ((with_reducible refine sd_tup ?_); refine ⟨_, rfl, ?_⟩)
  | ((with_reducible refine tw_test ?_))
  | ((with_reducible refine tw_B ?_))
  | ((with_reducible refine tw_not ?_))
  | ((with_reducible refine tw_and ?_))
  | ((with_reducible refine tw_or ?_))
  | ((with_reducible refine ew_andV ?_))
  | ((with_reducible refine ew_orV ?_))
  | ((with_reducible refine ew_notV ?_))
  | ((with_reducible refine sw_seq ?_))
  | ((with_reducible refine sw_if ?_))
  | ((with_reducible refine sw_ret ?_))
  | ((with_reducible refine sw_set ?_))
  | ((with_reducible refine sw_par ?_))
  | ((with_reducible refine sw_nx ?_))
  | ((with_reducible refine od_ix ?_); refine ⟨_, _, _, rfl, rfl, rfl, ?_⟩)
  | ((with_reducible refine od_mulI ?_); refine ⟨_, _, rfl, rfl, ?_, ?_⟩)
  | ((with_reducible refine od_mulNI ?_); refine ⟨_, _, rfl, rfl, ?_, ?_⟩)
  | ((with_reducible refine od_addI ?_); refine ⟨_, _, rfl, rfl, ?_⟩)
  | ((with_reducible refine od_addL ?_); refine ⟨_, _, rfl, rfl, ?_, ?_⟩)
  | ((with_reducible refine od_addT ?_); refine ⟨_, _, rfl, rfl, ?_, ?_⟩)
  | ((with_reducible refine od_I0 ?_); refine ⟨_, _, rfl, rfl, ?_⟩)
  | ((with_reducible refine od_B0 ?_); refine ⟨_, _, rfl, rfl, ?_⟩)
  | ((with_reducible refine od_I ?_); refine ⟨_, _, rfl, rfl, ?_, ?_⟩)
  | ((with_reducible refine ud_I ?_); refine ⟨_, rfl, ?_⟩)
  | ((with_reducible refine od_eqI' ?_))
  | ((with_reducible refine od_neI' ?_))
  | ((with_reducible refine od_eqS' ?_))
  | ((with_reducible refine od_neS' ?_))
  | ((with_reducible refine cd_gcd ?_); refine ⟨_, _, rfl, ?_⟩)
  | ((with_reducible refine cd_lcm ?_); refine ⟨_, _, rfl, ?_, ?_, ?_⟩)
  | ((with_reducible refine qAbs ?_); refine ⟨_, rfl, ?_⟩)
  | ((with_reducible refine qInt ?_); refine ⟨_, rfl, ?_⟩)
  | ((with_reducible refine qLen ?_); refine ⟨_, _, rfl, rfl, ?_⟩)
  | ((with_reducible refine qTup ?_); refine ⟨_, _, rfl, rfl, ?_⟩)
  | ((with_reducible refine qLst ?_); refine ⟨_, _, rfl, rfl, ?_⟩)
  | ((with_reducible refine cd_anyT ?_); refine ⟨_, rfl, ?_⟩)
  | ((with_reducible refine cd_sum ?_); refine ⟨_, rfl, ?_⟩)
  | ((with_reducible refine qIntB ?_); refine ⟨_, rfl, ?_⟩)
  | ((with_reducible refine qMax2 ?_); refine ⟨_, _, rfl, ?_⟩)
  | ((with_reducible refine cd_all ?_); refine ⟨_, rfl, ?_⟩)
  | ((with_reducible refine ex_b ?_))
  | ((with_reducible refine ex_i ?_))
  | ((with_reducible refine ex_t ?_))
  | ((with_reducible refine ex_l ?_))
  | ((with_reducible refine ex_2 ?_))
  | ((with_reducible refine fr_at ?_ ?_ ?_))
  | ((with_reducible refine dot_at ?_ ?_ ?_ ?_))
  | ((with_reducible refine len_and ?_ ?_); exact Nat.le_of_ble_eq_true rfl)
  | ((with_reducible refine own_and ?_ ?_); rfl))
section
variable {P : Program} {w : World} {K : PySem.W.Frag} {mg : Str → Option Value} {base : Heap}
theorem ok_dot {f : Addr} {fd : FuncData} (F : Fun K "dot" "dot" st_dot f fd) (T : Tx mg)  : FnOk P w K mg base CX0 1 f fd ["one", "other"] (spG mDot) := by
  have nd := sc_dot.nd
  refine fn_dl F sc_dot (fun B es R ⟨a, b, e, _⟩ => by rw [e]; rfl) fun cdv A outer s H E hr B es R hm => ?_
  have hu := hu_of hr
  have hu64 := hr.units
  obtain ⟨a, b, rfl, hl, ha, hb, hR⟩ := hm
  refine ⟨_, (pss_one (ps_ret (pe_callB (kSum (K := K) rfl rfl) (by rfl) T.sum (by decide +kernel) (pa_cons (pe_lc (own := [("x", 2), ("y", 3)]) rfl nd (kZipM (K := K) rfl (by rfl) T.zip (pa_cons (pv 0) (pa_cons (pv 1) pa_nil))) (blkOk_by (N := names_dot) (sc := defScope st_dot) (by decide +kernel)) (fun _ _ _ _ _ => (kTg (K := K) (n := 2) rfl rfl (pgs_cons (pg_name (i := 2) nd rfl (by first | exact Or.inl rfl | exact Or.inr rfl)) (pgs_cons (pg_name (i := 3) nd rfl (by first | exact Or.inl rfl | exact Or.inr rfl)) pgs_nil)))) (fun _ _ _ _ _ => pts_nil) (fun _ _ _ _ _ => (pe_op (kMulN (K := K) rfl) (pv 2) (pv 3)))) pa_nil)))), ?_⟩
  show SW B [.dat (intsD a), .dat (intsD b), .non, .non] _ _
  repeat' walk_at "dl"
  refine ew_lcEq ((List.zipWith (· * ·) a b).map PyData.int) (it_zipM ?_)
  repeat' walk_at "dl"
  refine ⟨_, _, _, _, rfl, rfl, rfl, ?_, ?_, fun i d u hd hu => ?_, ?_⟩
  · simp [zipD]
    omega
  · simp [zipD]
  · obtain ⟨x, y, hx, hy, rfl⟩ := zipD_inv hd
    obtain ⟨p, hp, rfl⟩ := map_inv hx
    obtain ⟨q, hq, rfl⟩ := map_inv hy
    obtain ⟨r, hr', rfl⟩ := map_inv hu
    have er : r = p * q := by
      rw [List.getElem?_zipWith, hp, hq] at hr'
      cases hr'
      rfl
    subst er
    refine gc_tup ⟨_, rfl, rfl, gcs_cons (gc_name (by decide) (gcs_cons (gc_name (by decide) (gcs_nil ?_))))⟩
    repeat' walk_at "dl"
    · exact (ha p (List.mem_of_getElem? hp)).mulOk (hb q (List.mem_of_getElem? hq)) (by decide)
    · rfl
  · repeat' walk_at "dl"
    exact hR
theorem ok_divisor {f : Addr} {fd : FuncData} (F : Fun K "divisor" "divisor" st_divisor f fd) (T : Tx mg)  : FnOk P w K mg base CX0 1 f fd ["numbers"] (spG mDivisor) := by
  have nd := sc_divisor.nd
  refine fn_dl F sc_divisor (fun B es R h => by obtain ⟨_, e, _⟩ := h; rw [e]; rfl) fun cdv A outer s H E hr B es R hm => ?_
  have hu := hu_of hr
  have hu64 := hr.units
  obtain ⟨ns, rfl, hR⟩ := hm
  refine ⟨_, (pss_cons (ps_set (i := 1) nd rfl (by first | exact Or.inl rfl | exact Or.inr rfl) pe_int)
      (pss_cons (ps_for PassesOwn.never rfl (kTuple (K := K) rfl (pv 0)) (pg_name (i := 2) nd rfl (by first | exact Or.inl rfl | exact Or.inr rfl)) (pss_cons (ps_set (i := 1) nd rfl (by first | exact Or.inl rfl | exact Or.inr rfl) (pe_callBfun cr_gcd (by rfl) T.gcd (pa_cons (pv 1) (pa_cons (pv 2) pa_nil))))
      (pss_one (ps_if (pt_cmpR (kEq (K := K) rfl hu64) (pv 1) pe_int (nomark _)) (pss_one (ps_ret pe_int)) pss_nil))))
      (pss_one (ps_ret (pv 1))))), ?_⟩
  show SW B [.dat (intsD ns), .non, .non] _ _
  repeat' walk_at "dl"
  refine sw_for (it_tup (ew_var rfl (ex_t ?_)))
  refine ⟨fun i e => ∃ z, e = [.dat (intsD ns), .dat (.int (gcdL (ns.take i))), z], ⟨.non, rfl⟩, ?_, ?_⟩
  · rintro i d e hd ⟨z, rfl⟩
    obtain ⟨x, hx, rfl⟩ := map_inv hd
    refine gw_name ?_
    repeat' walk_at "dl"
    have ht : ns.take (i + 1) = ns.take i ++ [x] := by rw [List.take_add_one, hx]; rfl
    have eg : gcdL (ns.take (i + 1)) = ((Nat.gcd (gcdL (ns.take i)).natAbs x.natAbs : Nat) : Int) := by
      rw [ht]
      unfold gcdL
      rw [List.foldl_append]
      rfl
    refine ite2 (fun hc => ?_) (fun hc => ?_)
    · repeat' walk_at "dl"
      rw [← eg] at hc
      have h1 := gcdL_take (of_decide_eq_true hc)
      rw [h1] at hR
      exact hR
    · repeat' walk_at "dl"
      exact ⟨_, by rw [eg]; rfl⟩
  · rintro e ⟨z, rfl⟩
    repeat' walk_at "dl"
    rw [List.length_map, List.take_length]
    exact hR
theorem ok_whole {f : Addr} {fd : FuncData} (F : Fun K "whole" "whole" st_whole f fd) (T : Tx mg)  : FnOk P w K mg base CX0 1 f fd ["fractions"] (spG mWhole) := by
  have nd := sc_whole.nd
  refine fn_dl F sc_whole (fun B es R h => by obtain ⟨_, e, _⟩ := h; rw [e]; rfl) fun cdv A outer s H E hr B es R hm => ?_
  have hu := hu_of hr
  have hu64 := hr.units
  obtain ⟨xs, rfl, hx, hR⟩ := hm
  refine ⟨_, (pss_cons (ps_set (i := 1) nd rfl (by first | exact Or.inl rfl | exact Or.inr rfl) pe_int)
      (pss_cons (ps_for PassesOwn.never rfl (kTuple (K := K) rfl (pv 0)) (pg_name (i := 2) nd rfl (by first | exact Or.inl rfl | exact Or.inr rfl)) (pss_one (ps_set (i := 1) nd rfl (by first | exact Or.inl rfl | exact Or.inr rfl) (pe_callBfun cr_lcm (by rfl) T.lcm (pa_cons (pv 1) (pa_cons (pe_ix (kIx (K := K) rfl) (pv 2) pe_int (fun _ _ => rfl)) pa_nil))))))
      (pss_one (ps_ret (pe_tup (pa_cons (pe_callTy (kTup (K := K) rfl) (by rfl) T.tuple (by decide +kernel) (pa_cons (pe_lc (own := [("p", 3), ("q", 4)]) rfl nd (kTuple (K := K) rfl (pv 0)) (blkOk_by (N := names_whole) (sc := defScope st_whole) (by decide +kernel)) (fun _ _ _ _ _ => (kTg (K := K) (n := 2) rfl rfl (pgs_cons (pg_name (i := 3) nd rfl (by first | exact Or.inl rfl | exact Or.inr rfl)) (pgs_cons (pg_name (i := 4) nd rfl (by first | exact Or.inl rfl | exact Or.inr rfl)) pgs_nil)))) (fun _ _ _ _ _ => pts_nil) (fun _ _ _ _ _ => (pe_op (kMulN (K := K) rfl) (pv 3) (pe_op op_fdivG (pv 1) (pv 4))))) pa_nil)) (pa_cons (pv 1) pa_nil))))))), ?_⟩
  show SW B [.dat (ptD xs), .non, .non, .non, .non] _ _
  repeat' walk_at "dl"
  refine sw_for (it_tup (ew_var rfl (ex_t ?_)))
  refine ⟨fun i e => ∃ z, e = [.dat (ptD xs), .dat (.int (lcmL (xs.take i))), z, .non, .non], ⟨.non, rfl⟩, ?_, ?_⟩
  · rintro i d e hd ⟨z, rfl⟩
    obtain ⟨x, hxi, rfl⟩ := map_inv hd
    have hm : x ∈ xs := List.mem_of_getElem? hxi
    refine gw_name ?_
    repeat' walk_at "dl"
    · have b1 := lcmL_bit (k := 200) (xs := xs.take i) fun y hy => (hx.fq y (List.mem_of_mem_take hy)).b2
      refine b1.mono ?_
      have := hx.len
      have : (xs.take i).length ≤ xs.length := by rw [List.length_take]; omega
      omega
    · exact (hx.fq x hm).b2.mono (by decide)
    · have ht : xs.take (i + 1) = xs.take i ++ [x] := by rw [List.take_add_one, hxi]; rfl
      have eg : lcmL (xs.take (i + 1)) = ((Nat.lcm (lcmL (xs.take i)).natAbs x.2.natAbs : Nat) : Int) := by
        rw [ht]
        unfold lcmL lcmF
        rw [List.foldl_append]
        rfl
      exact ⟨_, by rw [eg]; rfl⟩
  · rintro e ⟨z, rfl⟩
    rw [List.length_map, List.take_length]
    repeat' walk_at "dl"
    refine ew_lcEq ((wholeN xs).map PyData.int) (it_tup (ew_var rfl (ex_t ?_)))
    refine ⟨?_, ?_, fun i d u hd hu => ?_, ?_⟩
    · have := hx.len
      simp
      omega
    · simp [wholeN, overN]
    · obtain ⟨x, hxi, rfl⟩ := map_inv hd
      have hm : x ∈ xs := List.mem_of_getElem? hxi
      obtain ⟨r, hr', rfl⟩ := map_inv hu
      have er : r = x.1 * (lcmL xs).fdiv x.2 := by
        unfold wholeN overN at hr'
        rw [List.getElem?_map, hxi] at hr'
        cases hr'
        rfl
      subst er
      have h0 := (hx.fq x hm).pos
      refine gc_tup ⟨_, rfl, rfl, gcs_cons (gc_name (by decide) (gcs_cons (gc_name (by decide) (gcs_nil ?_))))⟩
      repeat' walk_at "dl"
      · exact (hx.fq x hm).b2.divOk (by omega) (by decide)
      · exact (hx.fq x hm).b1.mulOk (fdiv_bit' h0 (lcmL_dvd hx.pos hm) hx.lcm) (by decide)
      · rfl
    · repeat' walk_at "dl"
      exact hR
end
end E3
end
section
set_option Elab.async false
set_option linter.all false
set_option maxRecDepth 100000
set_option maxHeartbeats 0
namespace E3
open PySem L2 PySem.Spec PyProof.Rows Dl RZ Ev
local macro_rules | `(tactic| walk_at "dl") => `(tactic| first
  | ((with_reducible refine ew_varE ?_); refine ⟨_, rfl, ?_⟩)
  | ((with_reducible refine ew_int ?_))
  | ((with_reducible refine ew_str ?_))
  | ((with_reducible refine ew_bl ?_))
  | ((with_reducible refine ew_non ?_))
  | ((with_reducible refine ew_op ?_))
  | ((with_reducible refine ew_un ?_))
  | ((with_reducible refine ew_tup ?_))
  | ((with_reducible refine ew_lst ?_))
  | ((with_reducible refine ew_call ?_))
  | ((with_reducible refine ew_isi ?_))
  | ((with_reducible refine ew_cb ?_))
  | ((with_reducible refine ea_nil ?_))
  | ((with_reducible refine ea_rawE ?_); refine ⟨_, rfl, ?_⟩)
  | ((with_reducible refine ea_cons ?_))
  | ((with_reducible refine AllD.nil ?_))
  | ((with_reducible refine AllD.cons ?_))
  | ((with_reducible refine ew_isN ?_))
  | ((with_reducible refine ew_sl ?_))
  | ((with_reducible refine eo_none ?_))
  | ((with_reducible refine eo_some ?_))
  | ((with_reducible refine sd_list ?_); refine ⟨_, rfl, ?_⟩)
  | ((with_reducible refine sd_tup ?_); refine ⟨_, rfl, ?_⟩)
  | ((with_reducible refine tw_test ?_))
  | ((with_reducible refine tw_B ?_))
  | ((with_reducible refine tw_not ?_))
  | ((with_reducible refine tw_and ?_))
  | ((with_reducible refine tw_or ?_))
  | ((with_reducible refine ew_andV ?_))
  | ((with_reducible refine ew_orV ?_))
  | ((with_reducible refine ew_notV ?_))
  | ((with_reducible refine sw_seq ?_))
  | ((with_reducible refine sw_if ?_))
  | ((with_reducible refine sw_ret ?_))
  | ((with_reducible refine sw_set ?_))
  | ((with_reducible refine sw_par ?_))
  | ((with_reducible refine sw_nx ?_))
  | ((with_reducible refine od_ix ?_); refine ⟨_, _, _, rfl, rfl, rfl, ?_⟩)
  | ((with_reducible refine od_mulI ?_); refine ⟨_, _, rfl, rfl, ?_, ?_⟩)
  | ((with_reducible refine od_mulNI ?_); refine ⟨_, _, rfl, rfl, ?_, ?_⟩)
  | ((with_reducible refine od_addI ?_); refine ⟨_, _, rfl, rfl, ?_⟩)
  | ((with_reducible refine od_addL ?_); refine ⟨_, _, rfl, rfl, ?_, ?_⟩)
  | ((with_reducible refine od_addT ?_); refine ⟨_, _, rfl, rfl, ?_, ?_⟩)
  | ((with_reducible refine od_I0 ?_); refine ⟨_, _, rfl, rfl, ?_⟩)
  | ((with_reducible refine od_B0 ?_); refine ⟨_, _, rfl, rfl, ?_⟩)
  | ((with_reducible refine od_I ?_); refine ⟨_, _, rfl, rfl, ?_, ?_⟩)
  | ((with_reducible refine ud_I ?_); refine ⟨_, rfl, ?_⟩)
  | ((with_reducible refine od_eqI' ?_))
  | ((with_reducible refine od_neI' ?_))
  | ((with_reducible refine od_eqS' ?_))
  | ((with_reducible refine od_neS' ?_))
  | ((with_reducible refine cd_gcd ?_); refine ⟨_, _, rfl, ?_⟩)
  | ((with_reducible refine cd_lcm ?_); refine ⟨_, _, rfl, ?_, ?_, ?_⟩)
  | ((with_reducible refine qAbs ?_); refine ⟨_, rfl, ?_⟩)
  | ((with_reducible refine qInt ?_); refine ⟨_, rfl, ?_⟩)
  | ((with_reducible refine qLen ?_); refine ⟨_, _, rfl, rfl, ?_⟩)
  | ((with_reducible refine qTup ?_); refine ⟨_, _, rfl, rfl, ?_⟩)
  | ((with_reducible refine qLst ?_); refine ⟨_, _, rfl, rfl, ?_⟩)
  | ((with_reducible refine cd_anyT ?_); refine ⟨_, rfl, ?_⟩)
  | ((with_reducible refine cd_sum ?_); refine ⟨_, rfl, ?_⟩)
  | ((with_reducible refine qIntB ?_); refine ⟨_, rfl, ?_⟩)
  | ((with_reducible refine qMax2 ?_); refine ⟨_, _, rfl, ?_⟩)
  | ((with_reducible refine cd_all ?_); refine ⟨_, rfl, ?_⟩)
  | ((with_reducible refine ex_b ?_))
  | ((with_reducible refine ex_i ?_))
  | ((with_reducible refine ex_t ?_))
  | ((with_reducible refine ex_l ?_))
  | ((with_reducible refine ex_2 ?_))
  | ((with_reducible refine fr_at ?_ ?_ ?_))
  | ((with_reducible refine dot_at ?_ ?_ ?_ ?_))
  | ((with_reducible refine whole_at ?_ ?_))
  | ((with_reducible refine plain_at ?_ ?_))
  | ((with_reducible refine divisor_at ?_))
  | ((with_reducible refine len_and ?_ ?_); exact Nat.le_of_ble_eq_true rfl)
  | ((with_reducible refine own_and ?_ ?_); rfl))
section
variable {P : Program} {w : World} {K : PySem.W.Frag} {mg : Str → Option Value} {base : Heap}
theorem ok_plain_row {f : Addr} {fd : FuncData} (F : Fun K "plain_row" "plain_row" st_plain_row f fd) (T : Tx mg) (c_divisor : Has P w K mg base "divisor" 1 ["numbers"] (spG mDivisor))  : FnOk P w K mg base CX0 2 f fd ["row"] (spG mPlain) := by
  have nd := sc_plain_row.nd
  refine fn_dl F sc_plain_row (fun B es R ⟨a, b, e, _⟩ => by rw [e]; rfl) fun cdv A outer s H E hr B es R hm => ?_
  have hu := hu_of hr
  have hu64 := hr.units
  obtain ⟨a, b, rfl, h, hR⟩ := hm
  refine ⟨_, (pss_cons (ps_asg (pv 0) (kTg (K := K) (n := 2) rfl rfl (pgs_cons (pg_name (i := 1) nd rfl (by first | exact Or.inl rfl | exact Or.inr rfl)) (pgs_cons (pg_name (i := 2) nd rfl (by first | exact Or.inl rfl | exact Or.inr rfl)) pgs_nil))))
      (pss_cons (ps_if (pt_not (pt_val (pe_callB (kAnyT (K := K) rfl rfl) (by rfl) T.any (by decide +kernel) (pa_cons (pv 1) pa_nil)))) (pss_one (ps_ret (pe_tup (pa_cons (pe_callTy (kTup (K := K) rfl) (by rfl) T.tuple (by decide +kernel) (pa_cons (pv 1) pa_nil)) (pa_cons (pe_ifExp (pt_cmpR op_ge (pv 2) pe_int (nomark _)) pe_int (pe_un un_neg pe_int)) pa_nil))))) pss_nil)
      (pss_cons (ps_set (i := 3) nd rfl (by first | exact Or.inl rfl | exact Or.inr rfl) (c_divisor.call hr (pa_cons (pe_op (kAdd (K := K) rfl) (pv 1) (pe_tup (pa_cons (pv 2) pa_nil))) pa_nil)))
      (pss_one (ps_ret (pe_tup (pa_cons (pe_callTy (kTup (K := K) rfl) (by rfl) T.tuple (by decide +kernel) (pa_cons (pe_lc (own := [("k", 4)]) rfl nd (kTuple (K := K) rfl (pv 1)) (blkOk_by (N := names_plain_row) (sc := defScope st_plain_row) (by decide +kernel)) (fun _ _ _ _ _ => (pg_name (i := 4) nd rfl (by first | exact Or.inl rfl | exact Or.inr rfl))) (fun _ _ _ _ _ => pts_nil) (fun _ _ _ _ _ => (pe_op op_fdivG (pv 4) (pv 3)))) pa_nil)) (pa_cons (pe_op op_fdivG (pv 2) (pv 3)) pa_nil)))))))), ?_⟩
  show SW B [.dat (rowD a b), .non, .non, .non, .non] _ _
  refine sw_seq (sw_asg (ew_var rfl (gw_tup ⟨_, rfl, rfl, gws_cons (gw_name (gws_cons (gw_name (gws_nil ?_))))⟩)))
  have hl := h.len
  repeat' walk_at "dl"
  refine ite2 (fun hc => ?_) (fun hc => ?_)
  · have ha : ¬ anyI a = true := by
      intro z
      unfold anyI at z
      rw [z] at hc
      cases hc
    unfold plainR at hR
    rw [if_neg ha] at hR
    repeat' walk_at "dl"
    refine ew_ifv (.int (if 0 ≤ b then 0 else -1)) ?_ ?_
    · repeat' walk_at "dl"
      by_cases hb : 0 ≤ b
      · rw [if_pos hb, if_pos (show decide (b ≥ 0) = true from decide_eq_true hb)]
        repeat' walk_at "dl"
        rfl
      · rw [if_neg hb, if_neg (show ¬ decide (b ≥ 0) = true from fun z => hb (of_decide_eq_true z))]
        repeat' walk_at "dl"
        rfl
    · repeat' walk_at "dl"
      exact hR
  · have ha : anyI a = true := by
      unfold anyI
      cases e : (a.any fun n => n != 0) with
      | true => rfl
      | false => rw [e] at hc; exact absurd rfl hc
    have g0 := gcdAB_pos (b := b) ha
    have gb : Bit 4000 (gcdL (a ++ [b])) := gcdL_bit fun x hx => by
      rcases List.mem_append.mp hx with q | q
      · exact h.ba x q
      · rw [List.mem_singleton.mp q]; exact h.bb
    unfold plainR at hR
    rw [if_pos ha] at hR
    repeat' walk_at "dl"
    · simp
      omega
    rw [ints_app]
    repeat' walk_at "dl"
    refine ew_lcEq ((a.map (·.fdiv (gcdL (a ++ [b])))).map PyData.int) (it_tup (ew_var rfl (ex_t ?_)))
    refine ⟨by simp; omega, by simp, fun i d u hd hu => ?_, ?_⟩
    · obtain ⟨x, hxi, rfl⟩ := map_inv hd
      obtain ⟨r, hr', rfl⟩ := map_inv hu
      have er : r = x.fdiv (gcdL (a ++ [b])) := by
        rw [List.getElem?_map, hxi] at hr'
        cases hr'
        rfl
      subst er
      refine gc_name (by decide) ?_
      repeat' walk_at "dl"
      · exact gb.divOk (by omega) (by decide)
      · rfl
    · repeat' walk_at "dl"
      · exact gb.divOk (by omega) (by decide)
      · exact hR
end
end E3
end
section
set_option Elab.async false
set_option linter.all false
set_option maxRecDepth 100000
set_option maxHeartbeats 0
namespace E3
open PySem L2 PySem.Spec PyProof.Rows Dl RZ Ev
local macro_rules | `(tactic| walk_at "dl") => `(tactic| first
  | ((with_reducible refine ew_varE ?_); refine ⟨_, rfl, ?_⟩)
  | ((with_reducible refine ew_int ?_))
  | ((with_reducible refine ew_str ?_))
  | ((with_reducible refine ew_bl ?_))
  | ((with_reducible refine ew_non ?_))
  | ((with_reducible refine ew_op ?_))
  | ((with_reducible refine ew_un ?_))
  | ((with_reducible refine ew_tup ?_))
  | ((with_reducible refine ew_lst ?_))
  | ((with_reducible refine ew_call ?_))
  | ((with_reducible refine ew_isi ?_))
  | ((with_reducible refine ew_cb ?_))
  | ((with_reducible refine ea_nil ?_))
  | ((with_reducible refine ea_rawE ?_); refine ⟨_, rfl, ?_⟩)
  | ((with_reducible refine ea_cons ?_))
  | ((with_reducible refine AllD.nil ?_))
  | ((with_reducible refine AllD.cons ?_))
  | ((with_reducible refine ew_isN ?_))
  | ((with_reducible refine ew_sl ?_))
  | ((with_reducible refine eo_none ?_))
  | ((with_reducible refine eo_some ?_))
  | ((with_reducible refine sd_list ?_); refine ⟨_, rfl, ?_⟩)
  | ((with_reducible refine sd_tup ?_); refine ⟨_, rfl, ?_⟩)
  | ((with_reducible refine tw_test ?_))
  | ((with_reducible refine tw_B ?_))
  | ((with_reducible refine tw_not ?_))
  | ((with_reducible refine tw_and ?_))
  | ((with_reducible refine tw_or ?_))
  | ((with_reducible refine ew_andV ?_))
  | ((with_reducible refine ew_orV ?_))
  | ((with_reducible refine ew_notV ?_))
  | ((with_reducible refine sw_seq ?_))
  | ((with_reducible refine sw_if ?_))
  | ((with_reducible refine sw_ret ?_))
  | ((with_reducible refine sw_set ?_))
  | ((with_reducible refine sw_par ?_))
  | ((with_reducible refine sw_nx ?_))
  | ((with_reducible refine od_ix ?_); refine ⟨_, _, _, rfl, rfl, rfl, ?_⟩)
  | ((with_reducible refine od_mulI ?_); refine ⟨_, _, rfl, rfl, ?_, ?_⟩)
  | ((with_reducible refine od_mulNI ?_); refine ⟨_, _, rfl, rfl, ?_, ?_⟩)
  | ((with_reducible refine od_addI ?_); refine ⟨_, _, rfl, rfl, ?_⟩)
  | ((with_reducible refine od_addL ?_); refine ⟨_, _, rfl, rfl, ?_, ?_⟩)
  | ((with_reducible refine od_addT ?_); refine ⟨_, _, rfl, rfl, ?_, ?_⟩)
  | ((with_reducible refine od_I0 ?_); refine ⟨_, _, rfl, rfl, ?_⟩)
  | ((with_reducible refine od_B0 ?_); refine ⟨_, _, rfl, rfl, ?_⟩)
  | ((with_reducible refine od_I ?_); refine ⟨_, _, rfl, rfl, ?_, ?_⟩)
  | ((with_reducible refine ud_I ?_); refine ⟨_, rfl, ?_⟩)
  | ((with_reducible refine od_eqI' ?_))
  | ((with_reducible refine od_neI' ?_))
  | ((with_reducible refine od_eqS' ?_))
  | ((with_reducible refine od_neS' ?_))
  | ((with_reducible refine cd_gcd ?_); refine ⟨_, _, rfl, ?_⟩)
  | ((with_reducible refine cd_lcm ?_); refine ⟨_, _, rfl, ?_, ?_, ?_⟩)
  | ((with_reducible refine qAbs ?_); refine ⟨_, rfl, ?_⟩)
  | ((with_reducible refine qInt ?_); refine ⟨_, rfl, ?_⟩)
  | ((with_reducible refine qLen ?_); refine ⟨_, _, rfl, rfl, ?_⟩)
  | ((with_reducible refine qTup ?_); refine ⟨_, _, rfl, rfl, ?_⟩)
  | ((with_reducible refine qLst ?_); refine ⟨_, _, rfl, rfl, ?_⟩)
  | ((with_reducible refine cd_anyT ?_); refine ⟨_, rfl, ?_⟩)
  | ((with_reducible refine cd_sum ?_); refine ⟨_, rfl, ?_⟩)
  | ((with_reducible refine qIntB ?_); refine ⟨_, rfl, ?_⟩)
  | ((with_reducible refine qMax2 ?_); refine ⟨_, _, rfl, ?_⟩)
  | ((with_reducible refine cd_all ?_); refine ⟨_, rfl, ?_⟩)
  | ((with_reducible refine ex_b ?_))
  | ((with_reducible refine ex_i ?_))
  | ((with_reducible refine ex_t ?_))
  | ((with_reducible refine ex_l ?_))
  | ((with_reducible refine ex_2 ?_))
  | ((with_reducible refine fr_at ?_ ?_ ?_))
  | ((with_reducible refine dot_at ?_ ?_ ?_ ?_))
  | ((with_reducible refine whole_at ?_ ?_))
  | ((with_reducible refine plain_at ?_ ?_))
  | ((with_reducible refine divisor_at ?_))
  | ((with_reducible refine len_and ?_ ?_); exact Nat.le_of_ble_eq_true rfl)
  | ((with_reducible refine own_and ?_ ?_); rfl))
section
variable {P : Program} {w : World} {K : PySem.W.Frag} {mg : Str → Option Value} {base : Heap}
theorem ok_first_broken {f : Addr} {fd : FuncData} (F : Fun K "first_broken" "first_broken" st_first_broken f fd) (T : Tx mg) (c_dot : Has P w K mg base "dot" 1 ["one", "other"] (spG mDot)) (c_whole : Has P w K mg base "whole" 1 ["fractions"] (spG mWhole))  : FnOk P w K mg base CX0 2 f fd ["room", "point"] (spG (mRoom firstD)) := by
  have nd := sc_first_broken.nd
  refine fn_dl F sc_first_broken (fun B es R ⟨a, b, xs, e, _⟩ => by rw [e]; rfl) fun cdv A outer s H E hr B es R hm => ?_
  have hu := hu_of hr
  have hu64 := hr.units
  obtain ⟨n, rows, xs, rfl, h, hx, hR⟩ := hm
  refine ⟨_, (pss_cons (ps_asg (c_whole.call hr (pa_cons (pv 1) pa_nil)) (kTg (K := K) (n := 2) rfl rfl (pgs_cons (pg_name (i := 2) nd rfl (by first | exact Or.inl rfl | exact Or.inr rfl)) (pgs_cons (pg_name (i := 3) nd rfl (by first | exact Or.inl rfl | exact Or.inr rfl)) pgs_nil))))
      (pss_cons (ps_for PassesOwn.never rfl (kEnumT (K := K) rfl (by rfl) T.enumerate (pa_cons (pe_ix (kIx (K := K) rfl) (pv 0) pe_int (fun _ _ => rfl)) pa_nil)) (kTg (K := K) (n := 2) rfl rfl (pgs_cons (pg_name (i := 4) nd rfl (by first | exact Or.inl rfl | exact Or.inr rfl)) (pgs_cons (kTg (K := K) (n := 2) rfl rfl (pgs_cons (pg_name (i := 5) nd rfl (by first | exact Or.inl rfl | exact Or.inr rfl)) (pgs_cons (pg_name (i := 6) nd rfl (by first | exact Or.inl rfl | exact Or.inr rfl)) pgs_nil))) pgs_nil))) (pss_one (ps_if (pt_cmpR op_gt (c_dot.call hr (pa_cons (pv 5) (pa_cons (pv 2) pa_nil))) (pe_op (kMulN (K := K) rfl) (pv 6) (pv 3)) (nomark _)) (pss_one (ps_ret (pv 4))) pss_nil)))
      (pss_one (ps_ret pe_non)))), ?_⟩
  show SW B [.dat (roomD n rows), .dat (ptD xs), .non, .non, .non, .non, .non] _ _
  refine sw_seq (sw_asg (ew_call ?_))
  repeat' walk_at "dl"
  · exact hx
  refine gw_tup ⟨_, rfl, rfl, gws_cons (gw_name (gws_cons (gw_name (gws_nil ?_))))⟩
  have hl := h.len
  show SW B [.dat (roomD n rows), .dat (ptD xs), .dat (intsD (wholeN xs)), .dat (.int (lcmL xs)), .non, .non, .non] _ _
  refine sw_seq (sw_for (it_enumT ?_))
  repeat' walk_at "dl"
  refine ⟨_, _, rfl, rfl, fun i e => (∃ z1 z2 z3, e = [.dat (roomD n rows), .dat (ptD xs), .dat (intsD (wholeN xs)), .dat (.int (lcmL xs)), z1, z2, z3]) ∧ ∀ j, j < i → brokenO rows xs j = none, ⟨⟨_, _, _, rfl⟩, fun j hj => absurd hj (Nat.not_lt_zero j)⟩, ?_, ?_⟩
  · rintro i d e hd ⟨⟨z1, z2, z3, rfl⟩, hn⟩
    obtain ⟨x, y, h1, h2, rfl⟩ := zipD_inv hd
    obtain ⟨hi, rfl⟩ := rangeD_inv h1
    obtain ⟨r, hr', rfl⟩ := map_inv h2
    have ho := h.row r (List.mem_of_getElem? hr')
    have hl2 := ho.len
    refine gw_tup ⟨_, rfl, rfl, gws_cons (gw_name (gws_cons (gw_tup ⟨_, rfl, rfl, gws_cons (gw_name (gws_cons (gw_name (gws_nil (gws_nil ?_)))))⟩)))⟩
    repeat' walk_at "dl"
    · omega
    · exact ho.ba4 (by decide)
    · exact whole_bits hx
    · exact ho.bb.mulOk hx.lcm (by decide)
    have et : brokenO rows xs i = if brokenB r.1 r.2 xs = true then some (i : Int) else none := by
      unfold brokenO
      rw [hr']
    refine ite2 (fun hc => ?_) (fun hc => ?_)
    · repeat' walk_at "dl"
      have hb : brokenB r.1 r.2 xs = true := hc
      rw [if_pos hb] at et
      have hi2 : i < rows.length := by simpa using hi
      obtain ⟨t, ht⟩ := fm_first hn et hi2
      unfold firstD at hR
      rw [show brokenL rows xs = (i : Int) :: t from ht] at hR
      rw [Int.zero_add]
      exact hR
    · repeat' walk_at "dl"
      have hb : ¬ brokenB r.1 r.2 xs = true := hc
      rw [if_neg hb] at et
      refine ⟨⟨_, _, _, rfl⟩, fun j hj => ?_⟩
      by_cases q : j = i
      · rw [q]; exact et
      · exact hn j (by omega)
  · rintro e ⟨⟨z1, z2, z3, rfl⟩, hn⟩
    have e : (zipD (rangeD 0 (rows.map fun r => rowD r.1 r.2).length) (rows.map fun r => rowD r.1 r.2)).length = rows.length := by simp [zipD, rangeD]
    rw [e] at hn
    repeat' walk_at "dl"
    unfold firstD at hR
    rw [show brokenL rows xs = [] from fm_none hn] at hR
    exact hR
theorem ok_is_in {f : Addr} {fd : FuncData} (F : Fun K "is_in" "is_in" st_is_in f fd) (T : Tx mg) (c_first_broken : Has P w K mg base "first_broken" 2 ["room", "point"] (spG (mRoom firstD)))  : FnOk P w K mg base CX0 3 f fd ["room", "point"] (spG (mRoom fun rows xs => .bool (isInB rows xs))) := by
  have nd := sc_is_in.nd
  refine fn_dl F sc_is_in (fun B es R ⟨a, b, xs, e, _⟩ => by rw [e]; rfl) fun cdv A outer s H E hr B es R hm => ?_
  have hu := hu_of hr
  have hu64 := hr.units
  obtain ⟨n, rows, xs, rfl, h, hx, hR⟩ := hm
  refine ⟨_, (pss_one (ps_ret (pe_cmp (pc_isN (c_first_broken.call hr (pa_cons (pv 0) (pa_cons (pv 1) pa_nil)))) rfl))), ?_⟩
  show SW B [.dat (roomD n rows), .dat (ptD xs)] _ _
  repeat' walk_at "dl"
  refine room_at (n := n) h hx ?_
  dsimp only at hR
  unfold isInB at hR
  unfold firstD
  cases e : brokenL rows xs with
  | nil => rw [e] at hR; exact hR
  | cons k r => rw [e] at hR; exact hR
end
end E3
end
section
set_option Elab.async false
set_option linter.all false
set_option maxRecDepth 100000
set_option maxHeartbeats 0
namespace E3
open PySem L2 PySem.Spec PyProof.Rows Dl RZ Ev
local macro_rules | `(tactic| walk_at "dl") => `(tactic| first
  | ((with_reducible refine ew_varE ?_); refine ⟨_, rfl, ?_⟩)
  | ((with_reducible refine ew_int ?_))
  | ((with_reducible refine ew_str ?_))
  | ((with_reducible refine ew_bl ?_))
  | ((with_reducible refine ew_non ?_))
  | ((with_reducible refine ew_op ?_))
  | ((with_reducible refine ew_un ?_))
  | ((with_reducible refine ew_tup ?_))
  | ((with_reducible refine ew_lst ?_))
  | ((with_reducible refine ew_call ?_))
  | ((with_reducible refine ew_isi ?_))
  | ((with_reducible refine ew_cb ?_))
  | ((with_reducible refine ea_nil ?_))
  | ((with_reducible refine ea_rawE ?_); refine ⟨_, rfl, ?_⟩)
  | ((with_reducible refine ea_cons ?_))
  | ((with_reducible refine AllD.nil ?_))
  | ((with_reducible refine AllD.cons ?_))
  | ((with_reducible refine ew_isN ?_))
  | ((with_reducible refine ew_sl ?_))
  | ((with_reducible refine eo_none ?_))
  | ((with_reducible refine eo_some ?_))
  | ((with_reducible refine sd_list ?_); refine ⟨_, rfl, ?_⟩)
  | ((with_reducible refine sd_tup ?_); refine ⟨_, rfl, ?_⟩)
  | ((with_reducible refine tw_test ?_))
  | ((with_reducible refine tw_B ?_))
  | ((with_reducible refine tw_not ?_))
  | ((with_reducible refine tw_and ?_))
  | ((with_reducible refine tw_or ?_))
  | ((with_reducible refine ew_andV ?_))
  | ((with_reducible refine ew_orV ?_))
  | ((with_reducible refine ew_notV ?_))
  | ((with_reducible refine sw_seq ?_))
  | ((with_reducible refine sw_if ?_))
  | ((with_reducible refine sw_ret ?_))
  | ((with_reducible refine sw_set ?_))
  | ((with_reducible refine sw_par ?_))
  | ((with_reducible refine sw_nx ?_))
  | ((with_reducible refine od_ix ?_); refine ⟨_, _, _, rfl, rfl, rfl, ?_⟩)
  | ((with_reducible refine od_mulI ?_); refine ⟨_, _, rfl, rfl, ?_, ?_⟩)
  | ((with_reducible refine od_mulNI ?_); refine ⟨_, _, rfl, rfl, ?_, ?_⟩)
  | ((with_reducible refine od_addI ?_); refine ⟨_, _, rfl, rfl, ?_⟩)
  | ((with_reducible refine od_addL ?_); refine ⟨_, _, rfl, rfl, ?_, ?_⟩)
  | ((with_reducible refine od_addT ?_); refine ⟨_, _, rfl, rfl, ?_, ?_⟩)
  | ((with_reducible refine od_I0 ?_); refine ⟨_, _, rfl, rfl, ?_⟩)
  | ((with_reducible refine od_B0 ?_); refine ⟨_, _, rfl, rfl, ?_⟩)
  | ((with_reducible refine od_I ?_); refine ⟨_, _, rfl, rfl, ?_, ?_⟩)
  | ((with_reducible refine ud_I ?_); refine ⟨_, rfl, ?_⟩)
  | ((with_reducible refine od_eqI' ?_))
  | ((with_reducible refine od_neI' ?_))
  | ((with_reducible refine od_eqS' ?_))
  | ((with_reducible refine od_neS' ?_))
  | ((with_reducible refine cd_gcd ?_); refine ⟨_, _, rfl, ?_⟩)
  | ((with_reducible refine cd_lcm ?_); refine ⟨_, _, rfl, ?_, ?_, ?_⟩)
  | ((with_reducible refine qAbs ?_); refine ⟨_, rfl, ?_⟩)
  | ((with_reducible refine qInt ?_); refine ⟨_, rfl, ?_⟩)
  | ((with_reducible refine qLen ?_); refine ⟨_, _, rfl, rfl, ?_⟩)
  | ((with_reducible refine qTup ?_); refine ⟨_, _, rfl, rfl, ?_⟩)
  | ((with_reducible refine qLst ?_); refine ⟨_, _, rfl, rfl, ?_⟩)
  | ((with_reducible refine cd_anyT ?_); refine ⟨_, rfl, ?_⟩)
  | ((with_reducible refine cd_sum ?_); refine ⟨_, rfl, ?_⟩)
  | ((with_reducible refine qIntB ?_); refine ⟨_, rfl, ?_⟩)
  | ((with_reducible refine qMax2 ?_); refine ⟨_, _, rfl, ?_⟩)
  | ((with_reducible refine cd_all ?_); refine ⟨_, rfl, ?_⟩)
  | ((with_reducible refine ex_b ?_))
  | ((with_reducible refine ex_i ?_))
  | ((with_reducible refine ex_t ?_))
  | ((with_reducible refine ex_l ?_))
  | ((with_reducible refine ex_2 ?_))
  | ((with_reducible refine pick_atE ?_); refine ⟨by decide, fun r h0 h1 => ?_⟩)
  | ((with_reducible refine great_atE ?_); refine ⟨_, rfl, by decide, by decide, fun n h0 h1 => ?_⟩)
  | ((with_reducible refine of_atE ?_); refine ⟨by simp, Nat.le_of_ble_eq_true rfl, ?_⟩)
  | ((with_reducible refine ldiv_at ?_ ?_))
  | ((with_reducible refine plain_at ?_ ?_))
  | ((with_reducible refine len_and ?_ ?_); exact Nat.le_of_ble_eq_true rfl)
  | ((with_reducible refine own_and ?_ ?_); rfl))
section
variable {P : Program} {w : World} {K : PySem.W.Frag} {mg : Str → Option Value} {base : Heap}
theorem ok_l_divisor {f : Addr} {fd : FuncData} (F : Fun K "_law_divisor" "_law_divisor" st_l_divisor f fd) (T : Tx mg)  : FnOk P w K mg base CX0 1 f fd ["numbers"] (spG mLDiv) := by
  have nd := sc_l_divisor.nd
  refine fn_dl F sc_l_divisor (fun B es R h => by obtain ⟨_, e, _⟩ := h; rw [e]; rfl) fun cdv A outer s H E hr B es R hm => ?_
  have hu := hu_of hr
  have hu64 := hr.units
  obtain ⟨ns, rfl, hR⟩ := hm
  refine ⟨_, (pss_cons (ps_set (i := 1) nd rfl (by first | exact Or.inl rfl | exact Or.inr rfl) pe_int)
      (pss_cons (ps_for PassesOwn.never rfl (kList (K := K) rfl (pv 0)) (pg_name (i := 2) nd rfl (by first | exact Or.inl rfl | exact Or.inr rfl)) (pss_cons (ps_par (i := 3) (j := 4) (by rfl) nd rfl rfl (by decide) rfl rfl (pa_cons (pv 1) (pa_cons (pe_callB kAbs (by rfl) T.abs (by decide +kernel) (pa_cons (pv 2) pa_nil)) pa_nil)) (by rfl))
      (pss_cons (ps_while PassesOwn.never (pt_cmpR (kNe (K := K) rfl hu64) (pv 4) pe_int (nomark _)) (pss_one (ps_par (i := 3) (j := 4) (by rfl) nd rfl rfl (by decide) rfl rfl (pa_cons (pv 4) (pa_cons (pe_op op_modN (pe_callTy kInt (by rfl) T.int (by decide +kernel) (pa_cons (pv 3) pa_nil)) (pv 4)) pa_nil)) (by rfl))))
      (pss_one (ps_set (i := 1) nd rfl (by first | exact Or.inl rfl | exact Or.inr rfl) (pv 3))))))
      (pss_one (ps_ret (pv 1))))), ?_⟩
  show SW B [.dat (.list (ns.map PyData.int)), .non, .non, .non, .non] _ _
  repeat' walk_at "dl"
  refine sw_for (it_list (ew_var rfl (ex_l ?_)))
  refine ⟨fun i e => ∃ z1 z2 z3, e = [.dat (.list (ns.map PyData.int)), .dat (.int (gcdL (ns.take i))), z1, z2, z3], ⟨_, _, _, rfl⟩, ?_, ?_⟩
  · rintro i d e hd ⟨z1, z2, z3, rfl⟩
    obtain ⟨c, hc, rfl⟩ := map_inv hd
    refine gw_name ?_
    repeat' walk_at "dl"
    have ht : ns.take (i + 1) = ns.take i ++ [c] := by rw [List.take_add_one, hc]; rfl
    have eg : gcdL (ns.take (i + 1)) = ((Nat.gcd (gcdL (ns.take i)).natAbs c.natAbs : Nat) : Int) := by
      rw [ht]
      unfold gcdL
      rw [List.foldl_append]
      rfl
    have nn : 0 ≤ gcdL (ns.take i) := gcdF_nonneg _ 0 (Int.le_refl 0)
    refine sw_while ⟨fun m e => ∃ x y : Nat, e = [.dat (.list (ns.map PyData.int)), .dat (.int (gcdL (ns.take i))), .dat (.int c), .dat (.int x), .dat (.int y)] ∧ Nat.gcd x y = Nat.gcd (gcdL (ns.take i)).natAbs c.natAbs ∧ m = y, ⟨c.natAbs, (gcdL (ns.take i)).natAbs, c.natAbs, ?_, rfl, rfl⟩, ?_⟩
    · rw [abs_eq, show (((gcdL (ns.take i)).natAbs : Nat) : Int) = gcdL (ns.take i) by omega]
      rfl
    · rintro y e ⟨x, _, rfl, hg, rfl⟩
      repeat' walk_at "dl"
      refine ite2 (fun hc => ?_) (fun hc => ?_)
      all_goals repeat' walk_at "dl"
      · intro z
        have : y ≠ 0 := fun z => by subst z; simp at hc
        exact this (by omega)
      · have hy : 0 < y := by
          cases y with
          | zero => simp at hc
          | succ y => exact Nat.succ_pos y
        refine ⟨x % y, Nat.mod_lt _ hy, y, x % y, ?_, ?_, rfl⟩
        · rw [nat_abs_mod]
          rfl
        · rw [← hg, Nat.gcd_comm x y, Nat.gcd_comm y (x % y), ← Nat.gcd_rec]
      · have hy : y = 0 := by
          have := hc
          simp at this
          omega
        subst hy
        rw [Nat.gcd_zero_right] at hg
        subst hg
        exact ⟨_, _, _, by rw [eg]; rfl⟩
  · rintro e ⟨z1, z2, z3, rfl⟩
    repeat' walk_at "dl"
    rw [List.length_map, List.take_length]
    exact hR
theorem ok_l_plain {f : Addr} {fd : FuncData} (F : Fun K "_law_plain" "_law_plain" st_l_plain f fd) (T : Tx mg) (c_l_divisor : Has P w K mg base "_law_divisor" 1 ["numbers"] (spG mLDiv))  : FnOk P w K mg base CX0 2 f fd ["row"] (spG mPlain) := by
  have nd := sc_l_plain.nd
  refine fn_dl F sc_l_plain (fun B es R ⟨a, b, e, _⟩ => by rw [e]; rfl) fun cdv A outer s H E hr B es R hm => ?_
  have hu := hu_of hr
  have hu64 := hr.units
  obtain ⟨a, b, rfl, h, hR⟩ := hm
  refine ⟨_, (pss_cons (ps_asg (pv 0) (kTg (K := K) (n := 2) rfl rfl (pgs_cons (pg_name (i := 1) nd rfl (by first | exact Or.inl rfl | exact Or.inr rfl)) (pgs_cons (pg_name (i := 2) nd rfl (by first | exact Or.inl rfl | exact Or.inr rfl)) pgs_nil))))
      (pss_cons (ps_if (pt_cmpR (kEq (K := K) rfl hu64) (pe_lc (own := [("one", 3)]) rfl nd (kTuple (K := K) rfl (pv 1)) (blkOk_by (N := names_l_plain) (sc := defScope st_l_plain) (by decide +kernel)) (fun _ _ _ _ _ => (pg_name (i := 3) nd rfl (by first | exact Or.inl rfl | exact Or.inr rfl))) (fun _ _ _ _ _ => (pts_one (pt_cmpR (kNe (K := K) rfl hu64) (pv 3) pe_int (nomark _)))) (fun _ _ _ _ _ => (pv 3))) (pe_lst pa_nil) (nomark _)) (pss_one (ps_ret (pe_tup (pa_cons (pv 1) (pa_cons (pe_ifExp (pt_cmpR op_ge (pv 2) pe_int (nomark _)) pe_int (pe_op op_sub pe_int pe_int)) pa_nil))))) pss_nil)
      (pss_cons (ps_set (i := 4) nd rfl (by first | exact Or.inl rfl | exact Or.inr rfl) (c_l_divisor.call hr (pa_cons (pe_op (kAdd (K := K) rfl) (pe_callTy (kLst (K := K) rfl) (by rfl) T.list (by decide +kernel) (pa_cons (pv 1) pa_nil)) (pe_lst (pa_cons (pv 2) pa_nil))) pa_nil)))
      (pss_one (ps_ret (pe_tup (pa_cons (pe_callTy (kTup (K := K) rfl) (by rfl) T.tuple (by decide +kernel) (pa_cons (pe_lc (own := [("one", 3)]) rfl nd (kTuple (K := K) rfl (pv 1)) (blkOk_by (N := names_l_plain) (sc := defScope st_l_plain) (by decide +kernel)) (fun _ _ _ _ _ => (pg_name (i := 3) nd rfl (by first | exact Or.inl rfl | exact Or.inr rfl))) (fun _ _ _ _ _ => pts_nil) (fun _ _ _ _ _ => (pe_op op_fdivG (pv 3) (pv 4)))) pa_nil)) (pa_cons (pe_op op_fdivG (pv 2) (pv 4)) pa_nil)))))))), ?_⟩
  show SW B [.dat (rowD a b), .non, .non, .non, .non] _ _
  refine sw_seq (sw_asg (ew_var rfl (gw_tup ⟨_, rfl, rfl, gws_cons (gw_name (gws_cons (gw_name (gws_nil ?_))))⟩)))
  have hl := h.len
  show SW B [.dat (rowD a b), .dat (intsD a), .dat (.int b), .non, .non] _ _
  repeat' walk_at "dl"
  refine ew_lcF nzF (it_tup (ew_var rfl (ex_t ?_)))
  refine ⟨by simp; omega, fun i d hd => ?_, ?_⟩
  · obtain ⟨x, hx, rfl⟩ := map_inv hd
    refine gc_name (by decide) ?_
    repeat' walk_at "dl"
    refine ⟨?_, fun u hu => ?_⟩
    · show (!decide (x = 0)) = (if x != 0 then some (PyData.int x) else none).isSome
      by_cases q : x = 0 <;> simp [q]
    · repeat' walk_at "dl"
      have hu2 : (if x != 0 then some (PyData.int x) else none) = some u := hu
      split at hu2
      · cases hu2; rfl
      · cases hu2
  rw [nz_is]
  have hs := Sh.list (sh_ints (n := 4000) (a := a.filter (· != 0)) (fun x hx => h.ba x (List.mem_filter.mp hx).1) (by decide))
  have hs0 := Sh.list (k := 1) (m := 13000) (xs := []) (fun x hx => by cases hx)
  repeat' walk_at "dl"
  refine odI_eq (decide (a.filter (· != 0) = [])) (shp hs (cl_lst cl_ints) (by decide)) (shp hs0 (cl_lst fun x hx => by cases hx) (by decide)) (by rw [eqv_list]; exact eqvA_ints (b := [])) ?_
  repeat' walk_at "dl"
  refine ite2 (fun hc => ?_) (fun hc => ?_)
  · have ha : ¬ anyI a = true := (nz_any a).mp (of_decide_eq_true hc)
    unfold plainR at hR
    rw [if_neg ha] at hR
    repeat' walk_at "dl"
    refine ew_ifv (.int (if 0 ≤ b then 0 else -1)) ?_ ?_
    · repeat' walk_at "dl"
      by_cases hb : 0 ≤ b
      · rw [if_pos hb, if_pos (show decide (b ≥ 0) = true from decide_eq_true hb)]
        repeat' walk_at "dl"
        rfl
      · rw [if_neg hb, if_neg (show ¬ decide (b ≥ 0) = true from fun z => hb (of_decide_eq_true z))]
        repeat' walk_at "dl"
        rfl
    · repeat' walk_at "dl"
      exact hR
  · have ha : anyI a = true := by
      cases q : anyI a with
      | true => rfl
      | false => exact absurd (decide_eq_true ((nz_any a).mpr (by rw [q]; exact Bool.false_ne_true))) hc
    have g0 := gcdAB_pos (b := b) ha
    have gb : Bit 4000 (gcdL (a ++ [b])) := gcdL_bit fun x hx => by
      rcases List.mem_append.mp hx with q | q
      · exact h.ba x q
      · rw [List.mem_singleton.mp q]; exact h.bb
    unfold plainR at hR
    rw [if_pos ha] at hR
    repeat' walk_at "dl"
    · simp
      omega
    rw [ints_app]
    refine ldiv_at ?_
    repeat' walk_at "dl"
    refine ew_lcEq ((a.map (·.fdiv (gcdL (a ++ [b])))).map PyData.int) (it_tup (ew_var rfl (ex_t ?_)))
    refine ⟨by simp; omega, by simp, fun i d u hd hu => ?_, ?_⟩
    · obtain ⟨x, hxi, rfl⟩ := map_inv hd
      obtain ⟨r, hr', rfl⟩ := map_inv hu
      have er : r = x.fdiv (gcdL (a ++ [b])) := by
        rw [List.getElem?_map, hxi] at hr'
        cases hr'
        rfl
      subst er
      refine gc_name (by decide) ?_
      repeat' walk_at "dl"
      · exact gb.divOk (by omega) (by decide)
      · rfl
    · repeat' walk_at "dl"
      · exact gb.divOk (by omega) (by decide)
      · exact hR
theorem ok_l_reach {f : Addr} {fd : FuncData} (F : Fun K "_law_reach" "_law_reach" st_l_reach f fd) (T : Tx mg) (c_l_least : Has P w K mg base "_law_least" 1 ["a", "b"] (spG mLeast)) (c_l_plus : Has P w K mg base "_law_plus" 2 ["x", "y"] (spG (mBin pl)))  : FnOk P w K mg base CX0 3 f fd ["row", "point"] (spG (mLReach fun a _ xs => reachR a xs)) := by
  have nd := sc_l_reach.nd
  refine fn_dl F sc_l_reach (fun B es R ⟨a, b, xs, e, _⟩ => by rw [e]; rfl) fun cdv A outer s H E hr B es R hm => ?_
  have hu := hu_of hr
  have hu64 := hr.units
  obtain ⟨a, b, xs, rfl, h, hx, hlen, hR⟩ := hm
  dsimp only at hR
  refine ⟨_, (pss_cons (ps_set (i := 2) nd rfl (by first | exact Or.inl rfl | exact Or.inr rfl) (pe_tup (pa_cons pe_int (pa_cons pe_int pa_nil))))
      (pss_cons (ps_for PassesOwn.never rfl (kZipM (K := K) rfl (by rfl) T.zip (pa_cons (pe_ix (kIx (K := K) rfl) (pv 0) pe_int (fun _ _ => rfl)) (pa_cons (pv 1) pa_nil))) (kTg (K := K) (n := 2) rfl rfl (pgs_cons (pg_name (i := 3) nd rfl (by first | exact Or.inl rfl | exact Or.inr rfl)) (pgs_cons (kTg (K := K) (n := 2) rfl rfl (pgs_cons (pg_name (i := 4) nd rfl (by first | exact Or.inl rfl | exact Or.inr rfl)) (pgs_cons (pg_name (i := 5) nd rfl (by first | exact Or.inl rfl | exact Or.inr rfl)) pgs_nil))) pgs_nil))) (pss_one (ps_set (i := 2) nd rfl (by first | exact Or.inl rfl | exact Or.inr rfl) (c_l_plus.call hr (pa_cons (pv 2) (pa_cons (c_l_least.call hr (pa_cons (pe_op (kMulN (K := K) rfl) (pv 3) (pv 4)) (pa_cons (pv 5) pa_nil))) pa_nil))))))
      (pss_one (ps_ret (pv 2))))), ?_⟩
  show SW B [.dat (rowD a b), .dat (ptD xs), .non, .non, .non, .non] _ _
  repeat' walk_at "dl"
  refine sw_for (it_zipM ?_)
  repeat' walk_at "dl"
  refine ⟨_, _, _, _, rfl, rfl, rfl, fun i e => ∃ z1 z2 z3, e = [.dat (rowD a b), .dat (ptD xs), .dat (frD (reachR (a.take i) (xs.take i))), z1, z2, z3], ⟨_, _, _, by rw [show reachR (a.take 0) (xs.take 0) = (0, 1) from lst_zero (L := 1) (by decide)]; rfl⟩, ?_, ?_⟩
  · rintro i d e hd ⟨z1, z2, z3, rfl⟩
    obtain ⟨u, v, h1, h2, rfl⟩ := zipD_inv hd
    obtain ⟨c, hc, rfl⟩ := map_inv h1
    obtain ⟨x, hxi, rfl⟩ := map_inv h2
    have hm := List.mem_of_getElem? hxi
    have hma := List.mem_of_getElem? hc
    have fx := hx.fq x hm
    have h0 := fx.pos
    refine gw_tup ⟨_, rfl, rfl, gws_cons (gw_name (gws_cons (gw_tup ⟨_, rfl, rfl, gws_cons (gw_name (gws_cons (gw_name (gws_nil (gws_nil ?_)))))⟩)))⟩
    repeat' walk_at "dl"
    · exact (h.ba c hma).mulOk fx.b1 (by decide)
    refine least_at (by omega) (fx.b2.mono (by decide)) ?_
    repeat' walk_at "dl"
    refine ⟨reachR (a.take i) (xs.take i), lst (c * x.1) x.2, rfl, (reach_fq (h.take i) (hx.take i)).mono (by decide), (lst_fq (n := 2400) (by omega) (((h.ba c hma).mul fx.b1).mono (by decide)) (fx.b2.mono (by decide))).mono (by decide), ?_⟩
    rw [reach_step hx.pos hc hxi]
    exact ⟨_, _, _, rfl⟩
  · rintro e ⟨z1, z2, z3, rfl⟩
    repeat' walk_at "dl"
    have e1 : (zipD (a.map PyData.int) (xs.map frD)).length = xs.length := by simp [zipD]; omega
    rw [e1, ← hlen, List.take_length, hlen, List.take_length]
    exact hR
end
end E3
end
section
set_option Elab.async false
set_option linter.all false
set_option maxRecDepth 100000
set_option maxHeartbeats 0
namespace E3
open PySem L2 PySem.Spec PyProof.Rows Dl RZ Ev
local macro_rules | `(tactic| walk_at "dl") => `(tactic| first
  | ((with_reducible refine ew_varE ?_); refine ⟨_, rfl, ?_⟩)
  | ((with_reducible refine ew_int ?_))
  | ((with_reducible refine ew_str ?_))
  | ((with_reducible refine ew_bl ?_))
  | ((with_reducible refine ew_non ?_))
  | ((with_reducible refine ew_op ?_))
  | ((with_reducible refine ew_un ?_))
  | ((with_reducible refine ew_tup ?_))
  | ((with_reducible refine ew_lst ?_))
  | ((with_reducible refine ew_call ?_))
  | ((with_reducible refine ew_isi ?_))
  | ((with_reducible refine ew_cb ?_))
  | ((with_reducible refine ea_nil ?_))
  | ((with_reducible refine ea_rawE ?_); refine ⟨_, rfl, ?_⟩)
  | ((with_reducible refine ea_cons ?_))
  | ((with_reducible refine AllD.nil ?_))
  | ((with_reducible refine AllD.cons ?_))
  | ((with_reducible refine ew_if ?_))
  | ((with_reducible refine ew_isN ?_))
  | ((with_reducible refine ew_sl ?_))
  | ((with_reducible refine eo_none ?_))
  | ((with_reducible refine eo_some ?_))
  | ((with_reducible refine sd_list ?_))
  | ((with_reducible refine sd_tup ?_))
  | ((with_reducible refine tw_test ?_))
  | ((with_reducible refine tw_B ?_))
  | ((with_reducible refine tw_not ?_))
  | ((with_reducible refine tw_and ?_))
  | ((with_reducible refine tw_or ?_))
  | ((with_reducible refine sw_seq ?_))
  | ((with_reducible refine sw_if ?_))
  | ((with_reducible refine sw_ret ?_))
  | ((with_reducible refine sw_set ?_))
  | ((with_reducible refine sw_par ?_))
  | ((with_reducible refine sw_nx ?_))
  | ((with_reducible refine od_ix ?_); refine ⟨_, _, _, rfl, rfl, rfl, ?_⟩)
  | ((with_reducible refine od_mulI ?_); refine ⟨_, _, rfl, rfl, ?_, ?_⟩)
  | ((with_reducible refine od_addI ?_); refine ⟨_, _, rfl, rfl, ?_⟩)
  | ((with_reducible refine od_addL ?_); refine ⟨_, _, rfl, rfl, ?_, ?_⟩)
  | ((with_reducible refine od_I0 ?_); refine ⟨_, _, rfl, rfl, ?_⟩)
  | ((with_reducible refine od_B0 ?_); refine ⟨_, _, rfl, rfl, ?_⟩)
  | ((with_reducible refine od_I ?_); refine ⟨_, _, rfl, rfl, ?_, ?_⟩)
  | ((with_reducible refine ud_I ?_); refine ⟨_, rfl, ?_⟩)
  | ((with_reducible refine od_eqI' ?_))
  | ((with_reducible refine od_neI' ?_))
  | ((with_reducible refine od_eqS' ?_))
  | ((with_reducible refine od_neS' ?_))
  | ((with_reducible refine cd_gcd ?_); refine ⟨_, _, rfl, ?_⟩)
  | ((with_reducible refine qAbs ?_); refine ⟨_, rfl, ?_⟩)
  | ((with_reducible refine qInt ?_); refine ⟨_, rfl, ?_⟩)
  | ((with_reducible refine qLen ?_); refine ⟨_, _, rfl, rfl, ?_⟩)
  | ((with_reducible refine qTup ?_); refine ⟨_, _, rfl, rfl, ?_⟩)
  | ((with_reducible refine qLst ?_); refine ⟨_, _, rfl, rfl, ?_⟩)
  | ((with_reducible refine cd_repr ?_); refine ⟨_, rfl, ⟨_, ?_⟩, ?_, ?_, ?_, ?_⟩)
  | ((with_reducible refine qIntB ?_); refine ⟨_, rfl, ?_⟩)
  | ((with_reducible refine qMax2 ?_); refine ⟨_, _, rfl, ?_⟩)
  | ((with_reducible refine cd_all ?_); refine ⟨_, rfl, ?_⟩)
  | ((with_reducible refine ex_b ?_))
  | ((with_reducible refine ex_i ?_))
  | ((with_reducible refine ex_t ?_))
  | ((with_reducible refine ex_l ?_))
  | ((with_reducible refine ex_2 ?_))
  | ((with_reducible refine len_and ?_ ?_); exact Nat.le_of_ble_eq_true rfl)
  | ((with_reducible refine own_and ?_ ?_); rfl))
section
variable {P : Program} {w : World} {K : PySem.W.Frag} {mg : Str → Option Value} {base : Heap}
theorem ok_plus {f : Addr} {fd : FuncData} (F : Fun K "plus" "plus" st_plus f fd) (T : Tx mg) (c_fraction_of : Has P w K mg base "fraction_of" 1 ["p", "q"] (spG mFr))  : FnOk P w K mg base CX0 2 f fd ["one", "other"] (spG (mBin pl)) := by
  have nd := sc_plus.nd
  refine fn_dl F sc_plus (fun B es R ⟨x, y, e, _⟩ => by rw [e]; rfl) fun cdv A outer s H E hr B es R hm => ?_
  have hu := hu_of hr
  have hu64 := hr.units
  obtain ⟨x, y, rfl, hx, hy, hR⟩ := hm
  refine ⟨_, (pss_one (ps_ret (c_fraction_of.call hr (pa_cons (pe_op (kAdd (K := K) rfl) (pe_op (kMul (K := K) rfl) (pe_ix (kIx (K := K) rfl) (pv 0) pe_int (fun _ _ => rfl)) (pe_ix (kIx (K := K) rfl) (pv 1) pe_int (fun _ _ => rfl))) (pe_op (kMul (K := K) rfl) (pe_ix (kIx (K := K) rfl) (pv 1) pe_int (fun _ _ => rfl)) (pe_ix (kIx (K := K) rfl) (pv 0) pe_int (fun _ _ => rfl)))) (pa_cons (pe_op (kMul (K := K) rfl) (pe_ix (kIx (K := K) rfl) (pv 0) pe_int (fun _ _ => rfl)) (pe_ix (kIx (K := K) rfl) (pv 1) pe_int (fun _ _ => rfl))) pa_nil))))), ?_⟩
  show SW B [.dat (frD x), .dat (frD y)] _ _
  repeat' walk_at "dl"
  all_goals first
    | exact hx.b1.mulOk hy.b1 (by decide)
    | exact hx.b1.mulOk hy.b2 (by decide)
    | exact hx.b2.mulOk hy.b1 (by decide)
    | exact hx.b2.mulOk hy.b2 (by decide)
    | exact hy.b1.mulOk hx.b2 (by decide)
    | exact fr_at (mul_ne hx.pos (by have := hy.pos; omega)) ((hx.b2.mul hy.b2).mono (by decide)) hR

theorem ok_times {f : Addr} {fd : FuncData} (F : Fun K "times" "times" st_times f fd) (T : Tx mg) (c_fraction_of : Has P w K mg base "fraction_of" 1 ["p", "q"] (spG mFr))  : FnOk P w K mg base CX0 2 f fd ["one", "other"] (spG (mBin tm)) := by
  have nd := sc_times.nd
  refine fn_dl F sc_times (fun B es R ⟨x, y, e, _⟩ => by rw [e]; rfl) fun cdv A outer s H E hr B es R hm => ?_
  have hu := hu_of hr
  have hu64 := hr.units
  obtain ⟨x, y, rfl, hx, hy, hR⟩ := hm
  refine ⟨_, (pss_one (ps_ret (c_fraction_of.call hr (pa_cons (pe_op (kMul (K := K) rfl) (pe_ix (kIx (K := K) rfl) (pv 0) pe_int (fun _ _ => rfl)) (pe_ix (kIx (K := K) rfl) (pv 1) pe_int (fun _ _ => rfl))) (pa_cons (pe_op (kMul (K := K) rfl) (pe_ix (kIx (K := K) rfl) (pv 0) pe_int (fun _ _ => rfl)) (pe_ix (kIx (K := K) rfl) (pv 1) pe_int (fun _ _ => rfl))) pa_nil))))), ?_⟩
  show SW B [.dat (frD x), .dat (frD y)] _ _
  repeat' walk_at "dl"
  all_goals first
    | exact hx.b1.mulOk hy.b1 (by decide)
    | exact hx.b1.mulOk hy.b2 (by decide)
    | exact hx.b2.mulOk hy.b1 (by decide)
    | exact hx.b2.mulOk hy.b2 (by decide)
    | exact hy.b1.mulOk hx.b2 (by decide)
    | exact fr_at (mul_ne hx.pos (by have := hy.pos; omega)) ((hx.b2.mul hy.b2).mono (by decide)) hR

end
end E3
end
section
set_option Elab.async false
set_option linter.all false
set_option maxRecDepth 100000
set_option maxHeartbeats 0
namespace E3
open PySem L2 PySem.Spec PyProof.Rows Dl RZ Ev
local macro_rules | `(tactic| walk_at "dl") => `(tactic| first
  | ((with_reducible refine ew_varE ?_); refine ⟨_, rfl, ?_⟩)
  | ((with_reducible refine ew_int ?_))
  | ((with_reducible refine ew_str ?_))
  | ((with_reducible refine ew_bl ?_))
  | ((with_reducible refine ew_non ?_))
  | ((with_reducible refine ew_op ?_))
  | ((with_reducible refine ew_un ?_))
  | ((with_reducible refine ew_tup ?_))
  | ((with_reducible refine ew_lst ?_))
  | ((with_reducible refine ew_call ?_))
  | ((with_reducible refine ew_isi ?_))
  | ((with_reducible refine ew_cb ?_))
  | ((with_reducible refine ea_nil ?_))
  | ((with_reducible refine ea_rawE ?_); refine ⟨_, rfl, ?_⟩)
  | ((with_reducible refine ea_cons ?_))
  | ((with_reducible refine AllD.nil ?_))
  | ((with_reducible refine AllD.cons ?_))
  | ((with_reducible refine ew_if ?_))
  | ((with_reducible refine ew_isN ?_))
  | ((with_reducible refine ew_sl ?_))
  | ((with_reducible refine eo_none ?_))
  | ((with_reducible refine eo_some ?_))
  | ((with_reducible refine sd_list ?_))
  | ((with_reducible refine sd_tup ?_))
  | ((with_reducible refine tw_test ?_))
  | ((with_reducible refine tw_B ?_))
  | ((with_reducible refine tw_not ?_))
  | ((with_reducible refine tw_and ?_))
  | ((with_reducible refine tw_or ?_))
  | ((with_reducible refine sw_seq ?_))
  | ((with_reducible refine sw_if ?_))
  | ((with_reducible refine sw_ret ?_))
  | ((with_reducible refine sw_set ?_))
  | ((with_reducible refine sw_par ?_))
  | ((with_reducible refine sw_nx ?_))
  | ((with_reducible refine od_ix ?_); refine ⟨_, _, _, rfl, rfl, rfl, ?_⟩)
  | ((with_reducible refine od_mulI ?_); refine ⟨_, _, rfl, rfl, ?_, ?_⟩)
  | ((with_reducible refine od_addI ?_); refine ⟨_, _, rfl, rfl, ?_⟩)
  | ((with_reducible refine od_addL ?_); refine ⟨_, _, rfl, rfl, ?_, ?_⟩)
  | ((with_reducible refine od_I0 ?_); refine ⟨_, _, rfl, rfl, ?_⟩)
  | ((with_reducible refine od_B0 ?_); refine ⟨_, _, rfl, rfl, ?_⟩)
  | ((with_reducible refine od_I ?_); refine ⟨_, _, rfl, rfl, ?_, ?_⟩)
  | ((with_reducible refine ud_I ?_); refine ⟨_, rfl, ?_⟩)
  | ((with_reducible refine od_eqI' ?_))
  | ((with_reducible refine od_neI' ?_))
  | ((with_reducible refine od_eqS' ?_))
  | ((with_reducible refine od_neS' ?_))
  | ((with_reducible refine cd_gcd ?_); refine ⟨_, _, rfl, ?_⟩)
  | ((with_reducible refine qAbs ?_); refine ⟨_, rfl, ?_⟩)
  | ((with_reducible refine qInt ?_); refine ⟨_, rfl, ?_⟩)
  | ((with_reducible refine qLen ?_); refine ⟨_, _, rfl, rfl, ?_⟩)
  | ((with_reducible refine qTup ?_); refine ⟨_, _, rfl, rfl, ?_⟩)
  | ((with_reducible refine qLst ?_); refine ⟨_, _, rfl, rfl, ?_⟩)
  | ((with_reducible refine cd_repr ?_); refine ⟨_, rfl, ⟨_, ?_⟩, ?_, ?_, ?_, ?_⟩)
  | ((with_reducible refine qIntB ?_); refine ⟨_, rfl, ?_⟩)
  | ((with_reducible refine qMax2 ?_); refine ⟨_, _, rfl, ?_⟩)
  | ((with_reducible refine cd_all ?_); refine ⟨_, rfl, ?_⟩)
  | ((with_reducible refine ex_b ?_))
  | ((with_reducible refine ex_i ?_))
  | ((with_reducible refine ex_t ?_))
  | ((with_reducible refine ex_l ?_))
  | ((with_reducible refine ex_2 ?_))
  | ((with_reducible refine len_and ?_ ?_); exact Nat.le_of_ble_eq_true rfl)
  | ((with_reducible refine own_and ?_ ?_); rfl))
section
variable {P : Program} {w : World} {K : PySem.W.Frag} {mg : Str → Option Value} {base : Heap}
theorem ok_total {f : Addr} {fd : FuncData} (F : Fun K "total" "total" st_total f fd) (T : Tx mg) (c_plus : Has P w K mg base "plus" 2 ["one", "other"] (spG (mBin pl)))  : FnOk P w K mg base CX0 3 f fd ["fractions"] (spG mTotal) := by
  have nd := sc_total.nd
  refine fn_dl F sc_total (fun B es R ⟨b, xs, e, _⟩ => by rw [e]; rfl) fun cdv A outer s H E hr B es R hm => ?_
  have hu := hu_of hr
  have hu64 := hr.units
  obtain ⟨b, xs, rfl, hxs, hlen, hR⟩ := hm
  cases b with
  | false =>
    refine ⟨_, (pss_cons (ps_set (i := 1) nd rfl (by first | exact Or.inl rfl | exact Or.inr rfl) (pe_tup (pa_cons pe_int (pa_cons pe_int pa_nil))))
      (pss_cons (ps_for PassesOwn.never rfl (kList (K := K) rfl (pv 0)) (pg_name (i := 2) nd rfl (by first | exact Or.inl rfl | exact Or.inr rfl)) (pss_one (ps_set (i := 1) nd rfl (by first | exact Or.inl rfl | exact Or.inr rfl) (c_plus.call hr (pa_cons (pv 1) (pa_cons (pv 2) pa_nil))))))
      (pss_one (ps_ret (pv 1))))), ?_⟩
    show SW B [.dat (.list (xs.map frD)), .non, .non] _ _
    repeat' walk_at "dl"
    refine sw_for (it_list ?_)
    refine ew_var rfl (ex_l ?_)
    refine ⟨fun i e => ∃ z, e = [.dat (.list (xs.map frD)), .dat (frD (totF (xs.take i))), z], ⟨.non, rfl⟩, ?_, ?_⟩
    · rintro i d e hd ⟨z, rfl⟩
      obtain ⟨x, hx, rfl, ht, hm⟩ := take_map hd
      refine gw_name ?_
      repeat' walk_at "dl"
      have f1 : Fq 4000 (totF (xs.take i)) := by
        refine (tot_fq (xs.take i) (0, 1) 1 fq01 fun y hy => hxs y (List.mem_of_mem_take hy)).mono ?_
        have : (xs.take i).length ≤ xs.length := by rw [List.length_take]; omega
        omega
      refine ⟨_, _, rfl, f1, (hxs x hm).mono (by decide), ?_⟩
      show ∃ z, _ = _
      rw [ht]
      refine ⟨.dat (frD x), ?_⟩
      unfold totF
      rw [List.foldl_append]
      rfl
    · rintro e ⟨z, rfl⟩
      repeat' walk_at "dl"
      rw [List.length_map, List.take_length]
      exact hR
  | true =>
    refine ⟨_, (pss_cons (ps_set (i := 1) nd rfl (by first | exact Or.inl rfl | exact Or.inr rfl) (pe_tup (pa_cons pe_int (pa_cons pe_int pa_nil))))
      (pss_cons (ps_for PassesOwn.never rfl (kTuple (K := K) rfl (pv 0)) (pg_name (i := 2) nd rfl (by first | exact Or.inl rfl | exact Or.inr rfl)) (pss_one (ps_set (i := 1) nd rfl (by first | exact Or.inl rfl | exact Or.inr rfl) (c_plus.call hr (pa_cons (pv 1) (pa_cons (pv 2) pa_nil))))))
      (pss_one (ps_ret (pv 1))))), ?_⟩
    show SW B [.dat (.tuple (xs.map frD)), .non, .non] _ _
    repeat' walk_at "dl"
    refine sw_for (it_tup ?_)
    refine ew_var rfl (ex_t ?_)
    refine ⟨fun i e => ∃ z, e = [.dat (.tuple (xs.map frD)), .dat (frD (totF (xs.take i))), z], ⟨.non, rfl⟩, ?_, ?_⟩
    · rintro i d e hd ⟨z, rfl⟩
      obtain ⟨x, hx, rfl, ht, hm⟩ := take_map hd
      refine gw_name ?_
      repeat' walk_at "dl"
      have f1 : Fq 4000 (totF (xs.take i)) := by
        refine (tot_fq (xs.take i) (0, 1) 1 fq01 fun y hy => hxs y (List.mem_of_mem_take hy)).mono ?_
        have : (xs.take i).length ≤ xs.length := by rw [List.length_take]; omega
        omega
      refine ⟨_, _, rfl, f1, (hxs x hm).mono (by decide), ?_⟩
      show ∃ z, _ = _
      rw [ht]
      refine ⟨.dat (frD x), ?_⟩
      unfold totF
      rw [List.foldl_append]
      rfl
    · rintro e ⟨z, rfl⟩
      repeat' walk_at "dl"
      rw [List.length_map, List.take_length]
      exact hR

end
end E3
end
section
set_option Elab.async false
set_option linter.all false
set_option maxRecDepth 100000
set_option maxHeartbeats 0
namespace E3
open PySem L2 PySem.Spec PyProof.Rows Dl RZ Ev

structure RmK (n : Nat) (rows : Rows) : Prop where
  len : rows.length ≤ 100
  row : ∀ r, r ∈ rows → RowOk n r.1 r.2
theorem RmK.mono {n m : Nat} {rows : Rows} (h : RmK n rows) (l : n ≤ m) : RmK m rows := ⟨h.len, fun r hr => (h.row r hr).mono l⟩
theorem RmK.rm {rows : Rows} (h : RmK 2200 rows) : RmOk rows := ⟨h.len, h.row⟩
abbrev rowsL (rows : Rows) : List PyData := rows.map fun r => rowD r.1 r.2
def unitL (n : Nat) (k : Int) (x : Int) : List Int := (List.range n).map fun (i : Nat) => if (i : Int) = k then x else 0
def prodR (n m : Nat) (r1 r2 : Rows) : Rows := (r1.map fun r => plainR (r.1 ++ List.replicate m 0) r.2) ++ r2.map fun r => plainR (List.replicate n 0 ++ r.1) r.2
def shiftR (rows : Rows) (p : List (Int × Int)) : Rows := rows.map fun r => plainR (r.1.map (· * lcmL p)) (r.2 * lcmL p + dotI r.1 (wholeN p))
def scaleR (rows : Rows) (t : Int × Int) : Rows := rows.map fun r => plainR (r.1.map (· * t.2)) (r.2 * t.1)
def mirrorR (rows : Rows) : Rows := rows.map fun r => plainR (r.1.map (- ·)) r.2
def placeR (rows : Rows) (o : List Nat) : Rows := rows.map fun r => plainR (o.map (r.1.getD · 0)) r.2
def boxAt (low high : List (Int × Int)) (k : Nat) : Rows := [plainR (unitL low.length k (high.getD k (0, 1)).2) (high.getD k (0, 1)).1, plainR (unitL low.length k (-(low.getD k (0, 1)).2)) (-(low.getD k (0, 1)).1)]
def boxF (low high : List (Int × Int)) (n : Nat) : Rows := ((List.range n).map (boxAt low high)).flatten
def boxR (low high : List (Int × Int)) : Rows := boxF low high low.length
def mUnit (_ : Fr) (es : List Ent) (R : PyData → Prop) : Prop := ∃ (n k x : Int), es = [.dat (.int n), .dat (.int k), .dat (.int x)] ∧ 0 ≤ n ∧ n ≤ 6 ∧ R (intsD (unitL n.toNat k x))
def mJoined (_ : Fr) (es : List Ent) (R : PyData → Prop) : Prop := ∃ (n m : Int) (r1 r2 : Rows), es = [.dat (roomD n r1), .dat (roomD m r2)] ∧ RmK 2200 r1 ∧ RmK 2200 r2 ∧ R (roomD n (plainRows (r1 ++ r2)))
def mProduct (_ : Fr) (es : List Ent) (R : PyData → Prop) : Prop := ∃ (n m : Int) (r1 r2 : Rows), es = [.dat (roomD n r1), .dat (roomD m r2)] ∧ RmK 2200 r1 ∧ RmK 2200 r2 ∧ 0 ≤ n ∧ 0 ≤ m ∧ n + m ≤ 6 ∧ (∀ r, r ∈ r1 → r.1.length = n.toNat) ∧ (∀ r, r ∈ r2 → r.1.length = m.toNat) ∧ R (roomD (n + m) (prodR n.toNat m.toNat r1 r2))
def mShifted (_ : Fr) (es : List Ent) (R : PyData → Prop) : Prop := ∃ (n : Int) (rows : Rows) (p : List (Int × Int)), es = [.dat (roomD n rows), .dat (ptD p)] ∧ RmK 200 rows ∧ PtOk p ∧ R (roomD n (shiftR rows p))
def mScaled (_ : Fr) (es : List Ent) (R : PyData → Prop) : Prop := ∃ (n : Int) (rows : Rows) (t : Int × Int), es = [.dat (roomD n rows), .dat (frD t)] ∧ RmK 200 rows ∧ Fq 200 t ∧ R (roomD n (scaleR rows t))
def mMirrored (_ : Fr) (es : List Ent) (R : PyData → Prop) : Prop := ∃ (n : Int) (rows : Rows), es = [.dat (roomD n rows)] ∧ RmK 200 rows ∧ R (roomD n (mirrorR rows))
def mPlaced (_ : Fr) (es : List Ent) (R : PyData → Prop) : Prop := ∃ (n : Int) (rows : Rows) (o : List Nat), es = [.dat (roomD n rows), .dat (intsD (o.map fun (k : Nat) => (k : Int)))] ∧ RmK 200 rows ∧ o.length ≤ 6 ∧ (∀ r, r ∈ rows → ∀ k, k ∈ o → k < r.1.length) ∧ R (roomD n (placeR rows o))
def mBoxed (_ : Fr) (es : List Ent) (R : PyData → Prop) : Prop := ∃ (low high : List (Int × Int)), es = [.dat (ptD low), .dat (ptD high)] ∧ low.length = high.length ∧ low.length ≤ 6 ∧ PtOk low ∧ PtOk high ∧ R (roomD low.length (boxR low high))
def mOpen (_ : Fr) (es : List Ent) (R : PyData → Prop) : Prop := ∃ (n : Int), es = [.dat (.int n)] ∧ R (roomD n [])
theorem unit_at {n k x : Int} {B : Fr} {R : PyData → Prop} (h0 : 0 ≤ n) (h1 : n ≤ 6) (r : R (intsD (unitL n.toNat k x))) : mUnit B [.dat (.int n), .dat (.int k), .dat (.int x)] R := ⟨n, k, x, rfl, h0, h1, r⟩
theorem plain_ok2 {n : Nat} {a : List Int} {b : Int} (h : RowOk n a b) (hn : 1 ≤ n := by decide) : RowOk n (plainR a b).1 (plainR a b).2 := plain_ok h hn
theorem unit_ok {n m : Nat} {k x b : Int} (hn : n ≤ 7) (hx : Bit m x) (hb : Bit m b) : RowOk m (unitL n k x) b := ⟨by unfold unitL; rw [List.length_map, List.length_range]; exact hn, fun y hy => by
  obtain ⟨i, _, rfl⟩ := List.mem_map.mp hy
  split
  · exact hx
  · exact Bit.zero m, hb⟩
theorem getD_map {α : Type} {xs : List α} {i : Nat} {x d : α} (h : xs[i]? = some x) : xs.getD i d = x := by rw [List.getD_eq_getElem?_getD, h]; rfl
theorem map_some {α β : Type} {f : α → β} {xs : List α} {i : Nat} {x : α} (h : xs[i]? = some x) : (xs.map f)[i]? = some (f x) := by rw [List.getElem?_map, h]; rfl
theorem at_map_int {a : List Int} {k : Nat} (h : k < a.length) : atI (a.map PyData.int) (k : Int) = some (.int (a.getD k 0)) := by
  have e : a[k]? = some a[k] := List.getElem?_eq_getElem h
  rw [getD_map e]
  exact atI_nat (map_some e)
theorem look_re (env : Env) : ∀ {names : List (Str × NameKind)} {x : Str}, (names.lookup x = some .cell ∨ names.lookup x = some .free) →
    ((names.map fun (n, k) => if (k == NameKind.free && env.scope.kind == .function && env.kindOf n == some .cell) then (n, NameKind.cell) else (n, k)).lookup x = some .cell ∨ (names.map fun (n, k) => if (k == NameKind.free && env.scope.kind == .function && env.kindOf n == some .cell) then (n, NameKind.cell) else (n, k)).lookup x = some .free)
  | [], _, h => by simp at h
  | (n, k) :: r, x, h => by
    have ih := @look_re env r x
    cases hx : x == n with
    | true =>
      simp only [List.lookup_cons, hx] at h
      simp only [List.map_cons]
      split <;> simp_all [List.lookup_cons]
    | false =>
      simp only [List.lookup_cons, hx] at h
      have := ih h
      simp only [List.map_cons]
      split <;> simp only [List.lookup_cons, hx] <;> exact this
theorem blkOk_re {N : List Str} {sc scope : Scope} {own : List (Str × Nat)} {env : Env} (h : blkC N sc scope own = true) : BlkOk N (relabel sc env) scope own := by
  have b := blkOk_by h
  exact ⟨b.kind, b.uniq, b.ix, fun y hy e => look_re env (b.free y hy e), b.own⟩
theorem take_snoc {α : Type} {xs : List α} {i : Nat} {x : α} (h : xs[i]? = some x) : xs.take (i + 1) = xs.take i ++ [x] := by rw [List.take_add_one, h]; rfl
local macro_rules | `(tactic| walk_at "dl") => `(tactic| first
  | ((with_reducible refine ew_varE ?_); refine ⟨_, rfl, ?_⟩)
  | ((with_reducible refine ew_int ?_))
  | ((with_reducible refine ew_str ?_))
  | ((with_reducible refine ew_bl ?_))
  | ((with_reducible refine ew_non ?_))
  | ((with_reducible refine ew_op ?_))
  | ((with_reducible refine ew_un ?_))
  | ((with_reducible refine ew_tup ?_))
  | ((with_reducible refine ew_lst ?_))
  | ((with_reducible refine ew_call ?_))
  | ((with_reducible refine ew_isi ?_))
  | ((with_reducible refine ew_cb ?_))
  | ((with_reducible refine ea_nil ?_))
  | ((with_reducible refine ea_rawE ?_); refine ⟨_, rfl, ?_⟩)
  | ((with_reducible refine ea_cons ?_))
  | ((with_reducible refine AllD.nil ?_))
  | ((with_reducible refine AllD.cons ?_))
  | ((with_reducible refine ew_isN ?_))
  | ((with_reducible refine ew_sl ?_))
  | ((with_reducible refine eo_none ?_))
  | ((with_reducible refine eo_some ?_))
  | ((with_reducible refine sd_list ?_); refine ⟨_, rfl, ?_⟩)
  | ((with_reducible refine sd_tup ?_); refine ⟨_, rfl, ?_⟩)
  | ((with_reducible refine tw_test ?_))
  | ((with_reducible refine tw_B ?_))
  | ((with_reducible refine tw_not ?_))
  | ((with_reducible refine tw_and ?_))
  | ((with_reducible refine tw_or ?_))
  | ((with_reducible refine ew_andV ?_))
  | ((with_reducible refine ew_orV ?_))
  | ((with_reducible refine ew_notV ?_))
  | ((with_reducible refine sw_seq ?_))
  | ((with_reducible refine sw_if ?_))
  | ((with_reducible refine sw_ret ?_))
  | ((with_reducible refine sw_set ?_))
  | ((with_reducible refine sw_par ?_))
  | ((with_reducible refine sw_nx ?_))
  | ((with_reducible refine od_ix ?_); refine ⟨_, _, _, rfl, rfl, rfl, ?_⟩)
  | ((with_reducible refine od_mulI ?_); refine ⟨_, _, rfl, rfl, ?_, ?_⟩)
  | ((with_reducible refine od_mulNI ?_); refine ⟨_, _, rfl, rfl, ?_, ?_⟩)
  | ((with_reducible refine od_addI ?_); refine ⟨_, _, rfl, rfl, ?_⟩)
  | ((with_reducible refine od_addL ?_); refine ⟨_, _, rfl, rfl, ?_, ?_⟩)
  | ((with_reducible refine od_addT ?_); refine ⟨_, _, rfl, rfl, ?_, ?_⟩)
  | ((with_reducible refine od_I0 ?_); refine ⟨_, _, rfl, rfl, ?_⟩)
  | ((with_reducible refine od_B0 ?_); refine ⟨_, _, rfl, rfl, ?_⟩)
  | ((with_reducible refine od_I ?_); refine ⟨_, _, rfl, rfl, ?_, ?_⟩)
  | ((with_reducible refine ud_I ?_); refine ⟨_, rfl, ?_⟩)
  | ((with_reducible refine od_eqI' ?_))
  | ((with_reducible refine od_neI' ?_))
  | ((with_reducible refine od_eqS' ?_))
  | ((with_reducible refine od_neS' ?_))
  | ((with_reducible refine cd_gcd ?_); refine ⟨_, _, rfl, ?_⟩)
  | ((with_reducible refine cd_lcm ?_); refine ⟨_, _, rfl, ?_, ?_, ?_⟩)
  | ((with_reducible refine qAbs ?_); refine ⟨_, rfl, ?_⟩)
  | ((with_reducible refine qInt ?_); refine ⟨_, rfl, ?_⟩)
  | ((with_reducible refine qLen ?_); refine ⟨_, _, rfl, rfl, ?_⟩)
  | ((with_reducible refine qTup ?_); refine ⟨_, _, rfl, rfl, ?_⟩)
  | ((with_reducible refine qLst ?_); refine ⟨_, _, rfl, rfl, ?_⟩)
  | ((with_reducible refine cd_anyT ?_); refine ⟨_, rfl, ?_⟩)
  | ((with_reducible refine cd_sum ?_); refine ⟨_, rfl, ?_⟩)
  | ((with_reducible refine qIntB ?_); refine ⟨_, rfl, ?_⟩)
  | ((with_reducible refine qMax2 ?_); refine ⟨_, _, rfl, ?_⟩)
  | ((with_reducible refine cd_all ?_); refine ⟨_, rfl, ?_⟩)
  | ((with_reducible refine ex_b ?_))
  | ((with_reducible refine ex_i ?_))
  | ((with_reducible refine ex_t ?_))
  | ((with_reducible refine ex_l ?_))
  | ((with_reducible refine ex_2 ?_))
  | ((with_reducible refine dot_at ?_ ?_ ?_ ?_))
  | ((with_reducible refine whole_at ?_ ?_))
  | ((with_reducible refine plain_at ?_ ?_))
  | ((with_reducible refine len_and ?_ ?_); exact Nat.le_of_ble_eq_true rfl)
  | ((with_reducible refine own_and ?_ ?_); rfl))
section
variable {P : Program} {w : World} {K : PySem.W.Frag} {mg : Str → Option Value} {base : Heap}
theorem ok_unit {f : Addr} {fd : FuncData} (F : Fun K "unit" "unit" st_unit f fd) (T : Tx mg)  : FnOk P w K mg base CX0 1 f fd ["n", "place", "number"] (spG mUnit) := by
  have nd := sc_unit.nd
  refine fn_dl F sc_unit (fun B es R ⟨a, b, c, e, _⟩ => by rw [e]; rfl) fun cdv A outer s H E hr B es R hm => ?_
  have hu := hu_of hr
  have hu64 := hr.units
  obtain ⟨n, k, x, rfl, h0, h1, hR⟩ := hm
  refine ⟨_, (pss_one (ps_ret (pe_callTy (kTup (K := K) rfl) (by rfl) T.tuple (by decide +kernel) (pa_cons (pe_lc (own := [("k", 3)]) rfl nd (pi_range1 (by rfl) T.range (pa_cons (pv 0) pa_nil)) (blkOk_by (N := names_unit) (sc := defScope st_unit) (by decide +kernel)) (fun _ _ _ _ _ => (pg_name (i := 3) nd rfl (by first | exact Or.inl rfl | exact Or.inr rfl))) (fun _ _ _ _ _ => pts_nil) (fun _ _ _ _ _ => (pe_ifExp (pt_cmpR (kEq (K := K) rfl hu64) (pv 3) (pv 1) (nomark _)) (pv 2) pe_int))) pa_nil)))), ?_⟩
  show SW B [.dat (.int n), .dat (.int k), .dat (.int x), .non] _ _
  repeat' walk_at "dl"
  refine ew_lcEq ((unitL n.toNat k x).map PyData.int) (it_range1 ?_)
  repeat' walk_at "dl"
  refine ⟨n, rfl, by omega, by omega, by simp [rangeD]; omega, by simp [rangeD, unitL], fun i d u hd hu => ?_, ?_⟩
  · obtain ⟨hi, rfl⟩ := rangeD_inv hd
    have er : u = .int (if (i : Int) = k then x else 0) := by
      unfold unitL at hu
      rw [List.map_map] at hu
      have : (List.range n.toNat)[i]? = some i := List.getElem?_range hi
      rw [map_some this] at hu
      cases hu
      rfl
    subst er
    refine gc_name (by decide) ?_
    refine ew_ifv (.int (if (i : Int) = k then x else 0)) ?_ rfl
    repeat' walk_at "dl"
    rw [Int.zero_add]
    by_cases h : (i : Int) = k
    · rw [if_pos (decide_eq_true h), if_pos h]
      repeat' walk_at "dl"
      rfl
    · rw [if_neg (show ¬ decide ((i : Int) = k) = true from fun z => h (of_decide_eq_true z)), if_neg h]
      repeat' walk_at "dl"
      rfl
  · repeat' walk_at "dl"
    exact hR
theorem ok_joined {f : Addr} {fd : FuncData} (F : Fun K "joined" "joined" st_joined f fd) (T : Tx mg) (c_plain_row : Has P w K mg base "plain_row" 2 ["row"] (spG mPlain))  : FnOk P w K mg base CX0 3 f fd ["one", "other"] (spG mJoined) := by
  have nd := sc_joined.nd
  refine fn_dl F sc_joined (fun B es R ⟨a, b, c, d, e, _⟩ => by rw [e]; rfl) fun cdv A outer s H E hr B es R hm => ?_
  have hu := hu_of hr
  have hu64 := hr.units
  obtain ⟨n, m, r1, r2, rfl, h1, h2, hR⟩ := hm
  refine ⟨_, (pss_one (ps_ret (pe_tup (pa_cons (pe_ix (kIx (K := K) rfl) (pv 0) pe_int (fun _ _ => rfl)) (pa_cons (pe_callTy (kTup (K := K) rfl) (by rfl) T.tuple (by decide +kernel) (pa_cons (pe_lc (own := [("row", 2)]) rfl nd (kTuple (K := K) rfl (pe_op (kAdd (K := K) rfl) (pe_ix (kIx (K := K) rfl) (pv 0) pe_int (fun _ _ => rfl)) (pe_ix (kIx (K := K) rfl) (pv 1) pe_int (fun _ _ => rfl)))) (blkOk_by (N := names_joined) (sc := defScope st_joined) (by decide +kernel)) (fun _ _ _ _ _ => (pg_name (i := 2) nd rfl (by first | exact Or.inl rfl | exact Or.inr rfl))) (fun _ _ _ _ _ => pts_nil) (fun _ _ _ _ _ => (c_plain_row.call hr (pa_cons (pv 2) pa_nil)))) pa_nil)) pa_nil))))), ?_⟩
  show SW B [.dat (roomD n r1), .dat (roomD m r2), .non] _ _
  have l1 := h1.len
  have l2 := h2.len
  repeat' walk_at "dl"
  refine ew_lcEq ((plainRows (r1 ++ r2)).map fun r => rowD r.1 r.2) (it_tup ?_)
  repeat' walk_at "dl"
  · simp
    omega
  rw [← List.map_append]
  repeat' walk_at "dl"
  refine ⟨by simp; omega, by simp, fun i d u hd hu => ?_, ?_⟩
  · obtain ⟨r, hr', rfl⟩ := map_inv hd
    have hm := List.mem_of_getElem? hr'
    have ho : RowOk 2200 r.1 r.2 := (List.mem_append.mp hm).elim (h1.row r) (h2.row r)
    rw [List.map_map] at hu
    rw [map_get hr' hu]
    refine gc_name (by decide) ?_
    repeat' walk_at "dl"
    · exact ho.mono (by decide)
    · rfl
  · repeat' walk_at "dl"
    exact hR
theorem ok_scaled {f : Addr} {fd : FuncData} (F : Fun K "scaled" "scaled" st_scaled f fd) (T : Tx mg) (c_plain_row : Has P w K mg base "plain_row" 2 ["row"] (spG mPlain))  : FnOk P w K mg base CX0 3 f fd ["room", "t"] (spG mScaled) := by
  have nd := sc_scaled.nd
  refine fn_dl F sc_scaled (fun B es R ⟨a, b, c, e, _⟩ => by rw [e]; rfl) fun cdv A outer s H E hr B es R hm => ?_
  have hu := hu_of hr
  have hu64 := hr.units
  obtain ⟨n, rows, t, rfl, h, ht, hR⟩ := hm
  refine ⟨_, (pss_cons (ps_setLc (i := 2) rfl nd rfl rfl (sw_true rfl rfl rfl (by decide +kernel)) (own := [("a", 3), ("b", 4)]) (kTuple (K := K) rfl (pe_ix (kIx (K := K) rfl) (pv 0) pe_int (fun _ _ => rfl))) (blkOk_by (N := names_scaled) (sc := defScope st_scaled) (by decide +kernel)) (fun _ _ _ _ _ => (kTg (K := K) (n := 2) rfl rfl (pgs_cons (pg_name (i := 3) nd rfl (by first | exact Or.inl rfl | exact Or.inr rfl)) (pgs_cons (pg_name (i := 4) nd rfl (by first | exact Or.inl rfl | exact Or.inr rfl)) pgs_nil)))) (fun _ _ _ _ _ => pts_nil) (fun _ _ _ _ _ => (c_plain_row.call hr (pa_cons (pe_tup (pa_cons (pe_callTy (kTup (K := K) rfl) (by rfl) T.tuple (by decide +kernel) (pa_cons (pe_lc (own := [("k", 5)]) rfl nd (kTuple (K := K) rfl (pv 3)) (blkOk_re (N := names_scaled) (sc := ⟨.function, [(".0", .local), ("a", .local), ("b", .local), ("plain_row", .globalImplicit), ("tuple", .globalImplicit), ("t", .free)], false, false, []⟩) (by decide +kernel)) (fun _ _ _ _ _ => (pg_name (i := 5) nd rfl (by first | exact Or.inl rfl | exact Or.inr rfl))) (fun _ _ _ _ _ => pts_nil) (fun _ _ _ _ _ => (pe_op (kMulN (K := K) rfl) (pv 5) (pe_ix (kIx (K := K) rfl) (pv 1) pe_int (fun _ _ => rfl))))) pa_nil)) (pa_cons (pe_op (kMulN (K := K) rfl) (pv 4) (pe_ix (kIx (K := K) rfl) (pv 1) pe_int (fun _ _ => rfl))) pa_nil))) pa_nil))))
      (pss_one (ps_ret (pe_tup (pa_cons (pe_ix (kIx (K := K) rfl) (pv 0) pe_int (fun _ _ => rfl)) (pa_cons (pe_callTy (kTup (K := K) rfl) (by rfl) T.tuple (by decide +kernel) (pa_cons (pv 2) pa_nil)) pa_nil)))))), ?_⟩
  show SW B [.dat (roomD n rows), .dat (frD t), .non, .non, .non, .non] _ _
  have hl := h.len
  repeat' walk_at "dl"
  refine ew_lcEq ((scaleR rows t).map fun r => rowD r.1 r.2) (it_tup ?_)
  repeat' walk_at "dl"
  refine ⟨by simp; omega, by simp [scaleR], fun i d u hd hu => ?_, ?_⟩
  · obtain ⟨r, hr', rfl⟩ := map_inv hd
    have ho := h.row r (List.mem_of_getElem? hr')
    have hl2 := ho.len
    unfold scaleR at hu
    rw [List.map_map] at hu
    rw [map_get hr' hu]
    refine gc_tup ⟨_, rfl, rfl, gcs_cons (gc_name (by decide) (gcs_cons (gc_name (by decide) (gcs_nil ?_))))⟩
    repeat' walk_at "dl"
    refine ew_lcEq ((r.1.map (· * t.2)).map PyData.int) (it_tup (ew_var rfl (ex_t ?_)))
    refine ⟨by simp; omega, by simp, fun j d u hd hu => ?_, ?_⟩
    · obtain ⟨x, hx, rfl⟩ := map_inv hd
      rw [List.map_map] at hu
      rw [map_get hx hu]
      refine gc_name (by decide) ?_
      repeat' walk_at "dl"
      · exact (ho.ba x (List.mem_of_getElem? hx)).mulOk ht.b2 (by decide)
      · rfl
    · repeat' walk_at "dl"
      · exact ho.bb.mulOk ht.b1 (by decide)
      · refine ⟨by rw [List.length_map]; exact hl2, fun y hy => ?_, (ho.bb.mul ht.b1).mono (by decide)⟩
        obtain ⟨x, hx, rfl⟩ := List.mem_map.mp hy
        exact ((ho.ba x hx).mul ht.b2).mono (by decide)
      · rfl
  · repeat' walk_at "dl"
    exact hR
theorem ok_mirrored {f : Addr} {fd : FuncData} (F : Fun K "mirrored" "mirrored" st_mirrored f fd) (T : Tx mg) (c_plain_row : Has P w K mg base "plain_row" 2 ["row"] (spG mPlain))  : FnOk P w K mg base CX0 3 f fd ["room"] (spG mMirrored) := by
  have nd := sc_mirrored.nd
  refine fn_dl F sc_mirrored (fun B es R ⟨a, b, e, _⟩ => by rw [e]; rfl) fun cdv A outer s H E hr B es R hm => ?_
  have hu := hu_of hr
  have hu64 := hr.units
  obtain ⟨n, rows, rfl, h, hR⟩ := hm
  refine ⟨_, (pss_one (ps_ret (pe_tup (pa_cons (pe_ix (kIx (K := K) rfl) (pv 0) pe_int (fun _ _ => rfl)) (pa_cons (pe_callTy (kTup (K := K) rfl) (by rfl) T.tuple (by decide +kernel) (pa_cons (pe_lc (own := [("a", 1), ("b", 2)]) rfl nd (kTuple (K := K) rfl (pe_ix (kIx (K := K) rfl) (pv 0) pe_int (fun _ _ => rfl))) (blkOk_by (N := names_mirrored) (sc := defScope st_mirrored) (by decide +kernel)) (fun _ _ _ _ _ => (kTg (K := K) (n := 2) rfl rfl (pgs_cons (pg_name (i := 1) nd rfl (by first | exact Or.inl rfl | exact Or.inr rfl)) (pgs_cons (pg_name (i := 2) nd rfl (by first | exact Or.inl rfl | exact Or.inr rfl)) pgs_nil)))) (fun _ _ _ _ _ => pts_nil) (fun _ _ _ _ _ => (c_plain_row.call hr (pa_cons (pe_tup (pa_cons (pe_callTy (kTup (K := K) rfl) (by rfl) T.tuple (by decide +kernel) (pa_cons (pe_lc (own := [("k", 3)]) rfl nd (kTuple (K := K) rfl (pv 1)) (blkOk_re (N := names_mirrored) (sc := ⟨.function, [(".0", .local), ("a", .local), ("b", .local), ("plain_row", .globalImplicit), ("tuple", .globalImplicit)], false, false, []⟩) (by decide +kernel)) (fun _ _ _ _ _ => (pg_name (i := 3) nd rfl (by first | exact Or.inl rfl | exact Or.inr rfl))) (fun _ _ _ _ _ => pts_nil) (fun _ _ _ _ _ => (pe_un un_neg (pv 3)))) pa_nil)) (pa_cons (pv 2) pa_nil))) pa_nil)))) pa_nil)) pa_nil))))), ?_⟩
  show SW B [.dat (roomD n rows), .non, .non, .non] _ _
  have hl := h.len
  repeat' walk_at "dl"
  refine ew_lcEq ((mirrorR rows).map fun r => rowD r.1 r.2) (it_tup ?_)
  repeat' walk_at "dl"
  refine ⟨by simp; omega, by simp [mirrorR], fun i d u hd hu => ?_, ?_⟩
  · obtain ⟨r, hr', rfl⟩ := map_inv hd
    have ho := h.row r (List.mem_of_getElem? hr')
    have hl2 := ho.len
    unfold mirrorR at hu
    rw [List.map_map] at hu
    rw [map_get hr' hu]
    refine gc_tup ⟨_, rfl, rfl, gcs_cons (gc_name (by decide) (gcs_cons (gc_name (by decide) (gcs_nil ?_))))⟩
    repeat' walk_at "dl"
    refine ew_lcEq ((r.1.map (- ·)).map PyData.int) (it_tup (ew_var rfl (ex_t ?_)))
    refine ⟨by simp; omega, by simp, fun j d u hd hu => ?_, ?_⟩
    · obtain ⟨x, hx, rfl⟩ := map_inv hd
      rw [List.map_map] at hu
      rw [map_get hx hu]
      refine gc_name (by decide) ?_
      repeat' walk_at "dl"
      rfl
    · repeat' walk_at "dl"
      · refine ⟨by rw [List.length_map]; exact hl2, fun y hy => ?_, ho.bb.mono (by decide)⟩
        obtain ⟨x, hx, rfl⟩ := List.mem_map.mp hy
        exact ((ho.ba x hx).neg).mono (by decide)
      · rfl
  · repeat' walk_at "dl"
    exact hR
theorem ok_placed {f : Addr} {fd : FuncData} (F : Fun K "placed" "placed" st_placed f fd) (T : Tx mg) (c_plain_row : Has P w K mg base "plain_row" 2 ["row"] (spG mPlain))  : FnOk P w K mg base CX0 3 f fd ["room", "order"] (spG mPlaced) := by
  have nd := sc_placed.nd
  refine fn_dl F sc_placed (fun B es R ⟨a, b, c, e, _⟩ => by rw [e]; rfl) fun cdv A outer s H E hr B es R hm => ?_
  have hu := hu_of hr
  have hu64 := hr.units
  obtain ⟨n, rows, o, rfl, h, hol, hlt, hR⟩ := hm
  refine ⟨_, (pss_cons (ps_setLc (i := 2) rfl nd rfl rfl (sw_true rfl rfl rfl (by decide +kernel)) (own := [("a", 3), ("b", 4)]) (kTuple (K := K) rfl (pe_ix (kIx (K := K) rfl) (pv 0) pe_int (fun _ _ => rfl))) (blkOk_by (N := names_placed) (sc := defScope st_placed) (by decide +kernel)) (fun _ _ _ _ _ => (kTg (K := K) (n := 2) rfl rfl (pgs_cons (pg_name (i := 3) nd rfl (by first | exact Or.inl rfl | exact Or.inr rfl)) (pgs_cons (pg_name (i := 4) nd rfl (by first | exact Or.inl rfl | exact Or.inr rfl)) pgs_nil)))) (fun _ _ _ _ _ => pts_nil) (fun _ _ _ _ _ => (c_plain_row.call hr (pa_cons (pe_tup (pa_cons (pe_callTy (kTup (K := K) rfl) (by rfl) T.tuple (by decide +kernel) (pa_cons (pe_lc (own := [("k", 5)]) rfl nd (kTuple (K := K) rfl (pv 1)) (blkOk_re (N := names_placed) (sc := ⟨.function, [(".0", .local), ("a", .cell), ("b", .local), ("plain_row", .globalImplicit), ("tuple", .globalImplicit), ("order", .free)], false, false, []⟩) (by decide +kernel)) (fun _ _ _ _ _ => (pg_name (i := 5) nd rfl (by first | exact Or.inl rfl | exact Or.inr rfl))) (fun _ _ _ _ _ => pts_nil) (fun _ _ _ _ _ => (pe_ix (kIx (K := K) rfl) (pv 3) (pv 5) (fun _ _ => rfl)))) pa_nil)) (pa_cons (pv 4) pa_nil))) pa_nil))))
      (pss_one (ps_ret (pe_tup (pa_cons (pe_ix (kIx (K := K) rfl) (pv 0) pe_int (fun _ _ => rfl)) (pa_cons (pe_callTy (kTup (K := K) rfl) (by rfl) T.tuple (by decide +kernel) (pa_cons (pv 2) pa_nil)) pa_nil)))))), ?_⟩
  show SW B [.dat (roomD n rows), .dat (intsD (o.map fun (k : Nat) => (k : Int))), .non, .non, .non, .non] _ _
  have hl := h.len
  repeat' walk_at "dl"
  refine ew_lcEq ((placeR rows o).map fun r => rowD r.1 r.2) (it_tup ?_)
  repeat' walk_at "dl"
  refine ⟨by simp; omega, by simp [placeR], fun i d u hd hu => ?_, ?_⟩
  · obtain ⟨r, hr', rfl⟩ := map_inv hd
    have hm := List.mem_of_getElem? hr'
    have ho := h.row r hm
    unfold placeR at hu
    rw [List.map_map] at hu
    rw [map_get hr' hu]
    refine gc_tup ⟨_, rfl, rfl, gcs_cons (gc_name (by decide) (gcs_cons (gc_name (by decide) (gcs_nil ?_))))⟩
    repeat' walk_at "dl"
    refine ew_lcEq ((o.map (r.1.getD · 0)).map PyData.int) (it_tup (ew_var rfl (ex_t ?_)))
    refine ⟨by simp; omega, by simp, fun j d u hd hu => ?_, ?_⟩
    · rw [List.map_map] at hd
      obtain ⟨k, hk, rfl⟩ := map_inv hd
      rw [List.map_map] at hu
      rw [map_get hk hu]
      refine gc_name (by decide) ?_
      repeat' walk_at "dl"
      refine od_ix ⟨_, _, _, rfl, rfl, at_map_int (hlt r hm k (List.mem_of_getElem? hk)), ?_⟩
      rfl
    · repeat' walk_at "dl"
      · refine ⟨by rw [List.length_map]; omega, fun y hy => ?_, ho.bb.mono (by decide)⟩
        obtain ⟨k, hk, rfl⟩ := List.mem_map.mp hy
        have hk2 := hlt r hm k hk
        have e : r.1[k]? = some r.1[k] := List.getElem?_eq_getElem hk2
        rw [getD_map e]
        exact (ho.ba _ (List.mem_of_getElem? e)).mono (by decide)
      · rfl
  · repeat' walk_at "dl"
    exact hR
theorem ok_open_room {f : Addr} {fd : FuncData} (F : Fun K "open_room" "open_room" st_open_room f fd) (T : Tx mg)  : FnOk P w K mg base CX0 1 f fd ["n"] (spG mOpen) := by
  have nd := sc_open_room.nd
  refine fn_dl F sc_open_room (fun B es R ⟨a, e, _⟩ => by rw [e]; rfl) fun cdv A outer s H E hr B es R hm => ?_
  have hu := hu_of hr
  have hu64 := hr.units
  obtain ⟨n, rfl, hR⟩ := hm
  refine ⟨_, (pss_one (ps_ret (pe_tup (pa_cons (pv 0) (pa_cons (pe_tup pa_nil) pa_nil))))), ?_⟩
  show SW B [.dat (.int n)] _ _
  repeat' walk_at "dl"
  exact hR
end
end E3
end
section
set_option Elab.async false
set_option linter.all false
set_option maxRecDepth 100000
set_option maxHeartbeats 0
namespace E3
open PySem L2 PySem.Spec PyProof.Rows Dl RZ Ev

theorem lfA_rows (rows : Rows) : LFA (rows.map fun r => rowD r.1 r.2) = true := by have := lf_rows rows; rw [LF_tuple] at this; exact this
abbrev matD (m : List (List (Int × Int))) : PyData := .tuple (m.map ptD)
theorem app_rep_ok {k : Nat} {n m : Nat} {a : List Int} {b : Int} (h : RowOk k a b) (hl : a.length = n) (hs : n + m ≤ 7) : RowOk k (a ++ List.replicate m 0) b ∧ RowOk k (List.replicate m 0 ++ a) b := by
  have z : ∀ x, x ∈ List.replicate m (0 : Int) → Bit k x := fun x hx => by rw [List.eq_of_mem_replicate hx]; exact Bit.zero k
  exact ⟨⟨by rw [List.length_append, List.length_replicate]; omega, fun x hx => (List.mem_append.mp hx).elim (h.ba x) (z x), h.bb⟩, ⟨by rw [List.length_append, List.length_replicate]; omega, fun x hx => (List.mem_append.mp hx).elim (z x) (h.ba x), h.bb⟩⟩
theorem take_at {α : Type} {xs : List α} {i : Nat} {x : α} {f : α → PyData} (h : xs[i]? = some x) : (xs.take i).map f ++ [f x] = (xs.take (i + 1)).map f := by rw [take_snoc h, List.map_append]; rfl
def imgF (mat : List (List (Int × Int))) (pt sh : List (Int × Int)) : List (Int × Int) := List.zipWith (fun l m => pl (totF (List.zipWith tm l pt)) m) mat sh
structure MtOk (mat : List (List (Int × Int))) : Prop where
  len : mat.length ≤ 6
  fq : ∀ l, l ∈ mat → l.length ≤ 6 ∧ ∀ x, x ∈ l → Fq 80 x
structure VtOk (n : Nat) (xs : List (Int × Int)) : Prop where
  len : xs.length ≤ 6
  fq : ∀ x, x ∈ xs → Fq n x
theorem VtOk.mono {n m : Nat} {xs : List (Int × Int)} (h : VtOk n xs) (l : n ≤ m) : VtOk m xs := ⟨h.len, fun x hx => (h.fq x hx).mono l⟩
def mImage (_ : Fr) (es : List Ent) (R : PyData → Prop) : Prop := ∃ (mat : List (List (Int × Int))) (pt sh : List (Int × Int)), es = [.dat (matD mat), .dat (ptD pt), .dat (ptD sh)] ∧ MtOk mat ∧ VtOk 80 pt ∧ VtOk 2100 sh ∧ R (ptD (imgF mat pt sh))
def plantD (a b e : List (List (Int × Int))) (c : List (Int × Int)) (r1 r2 : PyData) : PyData := .tuple [matD a, matD b, matD e, ptD c, r1, r2]
def mNext (_ : Fr) (es : List Ent) (R : PyData → Prop) : Prop := ∃ (a b e : List (List (Int × Int))) (c x u w : List (Int × Int)) (r1 r2 : PyData), es = [.dat (plantD a b e c r1 r2), .dat (ptD x), .dat (ptD u), .dat (ptD w)] ∧ MtOk a ∧ MtOk b ∧ MtOk e ∧ VtOk 80 c ∧ VtOk 80 x ∧ VtOk 80 u ∧ VtOk 80 w ∧ R (ptD (imgF e w (imgF b u (imgF a x c))))
theorem image_at {mat : List (List (Int × Int))} {pt sh : List (Int × Int)} {B : Fr} {R : PyData → Prop} (h1 : MtOk mat) (h2 : VtOk 80 pt) (h3 : VtOk 2100 sh) (r : R (ptD (imgF mat pt sh))) : mImage B [.dat (.tuple (mat.map ptD)), .dat (.tuple (pt.map frD)), .dat (.tuple (sh.map frD))] R := ⟨mat, pt, sh, rfl, h1, h2, h3, r⟩
theorem zw_get {α β γ : Type} {f : α → β → γ} {a : List α} {b : List β} {i : Nat} {x : α} {y : β} (h : a[i]? = some x) (g : b[i]? = some y) : (List.zipWith f a b)[i]? = some (f x y) := by rw [List.getElem?_zipWith, h, g]
theorem mem_zw {α β γ : Type} {f : α → β → γ} {a : List α} {b : List β} {z : γ} (h : z ∈ List.zipWith f a b) : ∃ x, x ∈ a ∧ ∃ y, y ∈ b ∧ z = f x y := by
  obtain ⟨i, hi⟩ := List.getElem?_of_mem h
  rw [List.getElem?_zipWith] at hi
  cases e1 : a[i]? with
  | none => rw [e1] at hi; cases b[i]? <;> cases hi
  | some x =>
    cases e2 : b[i]? with
    | none => rw [e1, e2] at hi; cases hi
    | some y => rw [e1, e2] at hi; cases hi; exact ⟨x, List.mem_of_getElem? e1, y, List.mem_of_getElem? e2, rfl⟩
theorem tm_fq {n m : Nat} {x y : Int × Int} (hx : Fq n x) (hy : Fq m y) : Fq (n + m) (tm x y) := lst_fq (mul_ne hx.pos (by have := hy.pos; omega)) (hx.b1.mul hy.b1) (hx.b2.mul hy.b2)
theorem tms_fq {l pt : List (Int × Int)} (h : ∀ x, x ∈ l → Fq 80 x) (g : ∀ x, x ∈ pt → Fq 80 x) : ∀ z, z ∈ List.zipWith tm l pt → Fq 160 z := fun z hz => by
  obtain ⟨x, hx, y, hy, rfl⟩ := mem_zw hz
  exact tm_fq (h x hx) (g y hy)
theorem tms_len {l pt : List (Int × Int)} (h : l.length ≤ 6) : (List.zipWith tm l pt).length ≤ 6 := by rw [List.length_zipWith]; omega
theorem sum_fq {l pt : List (Int × Int)} (hl : l.length ≤ 6) (h : ∀ x, x ∈ l → Fq 80 x) (g : ∀ x, x ∈ pt → Fq 80 x) : Fq 967 (totF (List.zipWith tm l pt)) := (tot_fq _ (0, 1) 1 fq01 (tms_fq h g)).mono (by have := tms_len (pt := pt) hl; omega)
theorem img_ok {n : Nat} {mat : List (List (Int × Int))} {pt sh : List (Int × Int)} (h1 : MtOk mat) (h2 : VtOk 80 pt) (h3 : VtOk n sh) : VtOk (968 + n) (imgF mat pt sh) := ⟨by unfold imgF; rw [List.length_zipWith]; have := h3.len; omega, fun z hz => by
  obtain ⟨l, hl, m, hm, rfl⟩ := mem_zw hz
  have q := h1.fq l hl
  exact (pl_fq (sum_fq q.1 q.2 h2.fq) (h3.fq m hm)).mono (by omega)⟩
local macro_rules | `(tactic| walk_at "dl") => `(tactic| first
  | ((with_reducible refine ew_varE ?_); refine ⟨_, rfl, ?_⟩)
  | ((with_reducible refine ew_int ?_))
  | ((with_reducible refine ew_str ?_))
  | ((with_reducible refine ew_bl ?_))
  | ((with_reducible refine ew_non ?_))
  | ((with_reducible refine ew_op ?_))
  | ((with_reducible refine ew_un ?_))
  | ((with_reducible refine ew_tup ?_))
  | ((with_reducible refine ew_lst ?_))
  | ((with_reducible refine ew_call ?_))
  | ((with_reducible refine ew_isi ?_))
  | ((with_reducible refine ew_cb ?_))
  | ((with_reducible refine ea_nil ?_))
  | ((with_reducible refine ea_rawE ?_); refine ⟨_, rfl, ?_⟩)
  | ((with_reducible refine ea_cons ?_))
  | ((with_reducible refine AllD.nil ?_))
  | ((with_reducible refine AllD.cons ?_))
  | ((with_reducible refine ew_isN ?_))
  | ((with_reducible refine ew_sl ?_))
  | ((with_reducible refine eo_none ?_))
  | ((with_reducible refine eo_some ?_))
  | ((with_reducible refine sd_list ?_); refine ⟨_, rfl, ?_⟩)
  | ((with_reducible refine sd_tup ?_); refine ⟨_, rfl, ?_⟩)
  | ((with_reducible refine tw_test ?_))
  | ((with_reducible refine tw_B ?_))
  | ((with_reducible refine tw_not ?_))
  | ((with_reducible refine tw_and ?_))
  | ((with_reducible refine tw_or ?_))
  | ((with_reducible refine ew_andV ?_))
  | ((with_reducible refine ew_orV ?_))
  | ((with_reducible refine ew_notV ?_))
  | ((with_reducible refine sw_seq ?_))
  | ((with_reducible refine sw_if ?_))
  | ((with_reducible refine sw_ret ?_))
  | ((with_reducible refine sw_set ?_))
  | ((with_reducible refine sw_par ?_))
  | ((with_reducible refine sw_nx ?_))
  | ((with_reducible refine od_ix ?_); refine ⟨_, _, _, rfl, rfl, rfl, ?_⟩)
  | ((with_reducible refine od_mulI ?_); refine ⟨_, _, rfl, rfl, ?_, ?_⟩)
  | ((with_reducible refine od_mulNI ?_); refine ⟨_, _, rfl, rfl, ?_, ?_⟩)
  | ((with_reducible refine od_addI ?_); refine ⟨_, _, rfl, rfl, ?_⟩)
  | ((with_reducible refine od_addL ?_); refine ⟨_, _, rfl, rfl, ?_, ?_⟩)
  | ((with_reducible refine od_addT ?_); refine ⟨_, _, rfl, rfl, ?_, ?_⟩)
  | ((with_reducible refine od_I0 ?_); refine ⟨_, _, rfl, rfl, ?_⟩)
  | ((with_reducible refine od_B0 ?_); refine ⟨_, _, rfl, rfl, ?_⟩)
  | ((with_reducible refine od_I ?_); refine ⟨_, _, rfl, rfl, ?_, ?_⟩)
  | ((with_reducible refine ud_I ?_); refine ⟨_, rfl, ?_⟩)
  | ((with_reducible refine od_eqI' ?_))
  | ((with_reducible refine od_neI' ?_))
  | ((with_reducible refine od_eqS' ?_))
  | ((with_reducible refine od_neS' ?_))
  | ((with_reducible refine cd_gcd ?_); refine ⟨_, _, rfl, ?_⟩)
  | ((with_reducible refine cd_lcm ?_); refine ⟨_, _, rfl, ?_, ?_, ?_⟩)
  | ((with_reducible refine qAbs ?_); refine ⟨_, rfl, ?_⟩)
  | ((with_reducible refine qInt ?_); refine ⟨_, rfl, ?_⟩)
  | ((with_reducible refine qLen ?_); refine ⟨_, _, rfl, rfl, ?_⟩)
  | ((with_reducible refine qTup ?_); refine ⟨_, _, rfl, rfl, ?_⟩)
  | ((with_reducible refine qLst ?_); refine ⟨_, _, rfl, rfl, ?_⟩)
  | ((with_reducible refine cd_anyT ?_); refine ⟨_, rfl, ?_⟩)
  | ((with_reducible refine cd_sum ?_); refine ⟨_, rfl, ?_⟩)
  | ((with_reducible refine qIntB ?_); refine ⟨_, rfl, ?_⟩)
  | ((with_reducible refine qMax2 ?_); refine ⟨_, _, rfl, ?_⟩)
  | ((with_reducible refine cd_all ?_); refine ⟨_, rfl, ?_⟩)
  | ((with_reducible refine ex_b ?_))
  | ((with_reducible refine ex_i ?_))
  | ((with_reducible refine ex_t ?_))
  | ((with_reducible refine ex_l ?_))
  | ((with_reducible refine ex_2 ?_))
  | ((with_reducible refine dot_at ?_ ?_ ?_ ?_))
  | ((with_reducible refine whole_at ?_ ?_))
  | ((with_reducible refine plain_at ?_ ?_))
  | ((with_reducible refine unit_at ?_ ?_ ?_))
  | ((with_reducible refine od_mulNT ?_); refine ⟨_, _, rfl, rfl, ?_, ?_, ?_⟩)
  | ((with_reducible refine len_and ?_ ?_); exact Nat.le_of_ble_eq_true rfl)
  | ((with_reducible refine own_and ?_ ?_); rfl))
section
variable {P : Program} {w : World} {K : PySem.W.Frag} {mg : Str → Option Value} {base : Heap}
theorem ok_product {f : Addr} {fd : FuncData} (F : Fun K "product" "product" st_product f fd) (T : Tx mg) (c_plain_row : Has P w K mg base "plain_row" 2 ["row"] (spG mPlain))  : FnOk P w K mg base CX0 3 f fd ["one", "other"] (spG mProduct) := by
  have nd := sc_product.nd
  refine fn_dl F sc_product (fun B es R ⟨a, b, c, d, e, _⟩ => by rw [e]; rfl) fun cdv A outer s H E hr B es R hm => ?_
  have hu := hu_of hr
  have hu64 := hr.units
  obtain ⟨n, m, r1, r2, rfl, h1, h2, hn, hm, hs, hl1, hl2, hR⟩ := hm
  refine ⟨_, (pss_cons (ps_asg (pe_tup (pa_cons (pe_op (kMulN (K := K) rfl) (pe_tup (pa_cons pe_int pa_nil)) (pe_ix (kIx (K := K) rfl) (pv 1) pe_int (fun _ _ => rfl))) (pa_cons (pe_op (kMulN (K := K) rfl) (pe_tup (pa_cons pe_int pa_nil)) (pe_ix (kIx (K := K) rfl) (pv 0) pe_int (fun _ _ => rfl))) pa_nil))) (kTg (K := K) (n := 2) rfl rfl (pgs_cons (pg_name (i := 2) nd rfl (by first | exact Or.inl rfl | exact Or.inr rfl)) (pgs_cons (pg_name (i := 3) nd rfl (by first | exact Or.inl rfl | exact Or.inr rfl)) pgs_nil))))
      (pss_cons (ps_setLc (i := 4) rfl nd rfl rfl (sw_true rfl rfl rfl (by decide +kernel)) (own := [("a", 5), ("b", 6)]) (kTuple (K := K) rfl (pe_ix (kIx (K := K) rfl) (pv 0) pe_int (fun _ _ => rfl))) (blkOk_by (N := names_product) (sc := defScope st_product) (by decide +kernel)) (fun _ _ _ _ _ => (kTg (K := K) (n := 2) rfl rfl (pgs_cons (pg_name (i := 5) nd rfl (by first | exact Or.inl rfl | exact Or.inr rfl)) (pgs_cons (pg_name (i := 6) nd rfl (by first | exact Or.inl rfl | exact Or.inr rfl)) pgs_nil)))) (fun _ _ _ _ _ => pts_nil) (fun _ _ _ _ _ => (c_plain_row.call hr (pa_cons (pe_tup (pa_cons (pe_op (kAdd (K := K) rfl) (pv 5) (pv 2)) (pa_cons (pv 6) pa_nil))) pa_nil))))
      (pss_cons (ps_expr (kBm (K := K) rfl PySem.F.plainAttrs_list PySem.F.slot_list_extend PySem.F.type_list_extend mt_extend (pv 4) (pa_cons (pe_lc (own := [("a", 5), ("b", 6)]) rfl nd (kTuple (K := K) rfl (pe_ix (kIx (K := K) rfl) (pv 1) pe_int (fun _ _ => rfl))) (blkOk_by (N := names_product) (sc := defScope st_product) (by decide +kernel)) (fun _ _ _ _ _ => (kTg (K := K) (n := 2) rfl rfl (pgs_cons (pg_name (i := 5) nd rfl (by first | exact Or.inl rfl | exact Or.inr rfl)) (pgs_cons (pg_name (i := 6) nd rfl (by first | exact Or.inl rfl | exact Or.inr rfl)) pgs_nil)))) (fun _ _ _ _ _ => pts_nil) (fun _ _ _ _ _ => (c_plain_row.call hr (pa_cons (pe_tup (pa_cons (pe_op (kAdd (K := K) rfl) (pv 3) (pv 5)) (pa_cons (pv 6) pa_nil))) pa_nil)))) pa_nil)))
      (pss_one (ps_ret (pe_tup (pa_cons (pe_op (kAdd (K := K) rfl) (pe_ix (kIx (K := K) rfl) (pv 0) pe_int (fun _ _ => rfl)) (pe_ix (kIx (K := K) rfl) (pv 1) pe_int (fun _ _ => rfl))) (pa_cons (pe_callTy (kTup (K := K) rfl) (by rfl) T.tuple (by decide +kernel) (pa_cons (pv 4) pa_nil)) pa_nil)))))))), ?_⟩
  show SW B [.dat (roomD n r1), .dat (roomD m r2), .non, .non, .non, .non, .non] _ _
  have l1 := h1.len
  have l2 := h2.len
  refine sw_mid (fun e => e = [.dat (roomD n r1), .dat (roomD m r2), .dat (intsD (List.replicate m.toNat 0)), .dat (intsD (List.replicate n.toNat 0)), .non, .non, .non]) ?_ ?_
  · refine sw_asg (ew_tup ?_)
    repeat' walk_at "dl"
    any_goals omega
    repeat' walk_at "dl"
    all_goals try omega
    refine gw_tup ⟨_, rfl, rfl, gws_cons (gw_name (gws_cons (gw_name (gws_nil ?_))))⟩
    rw [rep_ints, rep_ints]
    rfl
  rintro e rfl
  refine sw_seq (sw_fresh [] (by simp [wipeE, LFEs, LFE, lf_room, lf_ints]) ?_)
  refine ew_lcEq (((r1.map fun r => plainR (r.1 ++ List.replicate m.toNat 0) r.2)).map fun r => rowD r.1 r.2) (it_tup ?_)
  repeat' walk_at "dl"
  refine ⟨by simp; omega, by simp, fun i d u hd hu => ?_, ?_⟩
  · obtain ⟨r, hr', rfl⟩ := map_inv hd
    have hm' := List.mem_of_getElem? hr'
    have ho := app_rep_ok (m := m.toNat) (h1.row r hm') (hl1 r hm') (by omega)
    rw [List.map_map] at hu
    rw [map_get hr' hu]
    refine gc_tup ⟨_, rfl, rfl, gcs_cons (gc_name (by decide) (gcs_cons (gc_name (by decide) (gcs_nil ?_))))⟩
    repeat' walk_at "dl"
    · have := ho.1.len
      rw [List.length_append] at this
      rw [List.length_map, List.length_map]
      omega
    rw [← List.map_append]
    refine plain_at (ho.1.mono (by decide)) ?_
    rfl
  refine ⟨_, rfl, lfA_rows _, fun a => ?_⟩
  show SW B [.dat (roomD n r1), .dat (roomD m r2), .dat (intsD (List.replicate m.toNat 0)), .dat (intsD (List.replicate n.toNat 0)), .own a _, .non, .non] _ _
  refine sw_seq (sw_extend rfl ?_)
  refine ew_lcEq (((r2.map fun r => plainR (List.replicate n.toNat 0 ++ r.1) r.2)).map fun r => rowD r.1 r.2) (it_tup ?_)
  repeat' walk_at "dl"
  refine ⟨by simp; omega, by simp, fun i d u hd hu => ?_, ?_⟩
  · obtain ⟨r, hr', rfl⟩ := map_inv hd
    have hm' := List.mem_of_getElem? hr'
    have ho := app_rep_ok (m := n.toNat) (h2.row r hm') (hl2 r hm') (by omega)
    rw [List.map_map] at hu
    rw [map_get hr' hu]
    refine gc_tup ⟨_, rfl, rfl, gcs_cons (gc_name (by decide) (gcs_cons (gc_name (by decide) (gcs_nil ?_))))⟩
    repeat' walk_at "dl"
    · have := ho.2.len
      rw [List.length_append] at this
      rw [List.length_map, List.length_map]
      omega
    rw [← List.map_append]
    refine plain_at (ho.2.mono (by decide)) ?_
    rfl
  refine ⟨_, rfl, by simp; omega, ?_⟩
  refine sw_thaw 4 rfl ?_
  rw [← List.map_append]
  show SW B [.dat (roomD n r1), .dat (roomD m r2), .dat (intsD (List.replicate m.toNat 0)), .dat (intsD (List.replicate n.toNat 0)), .dat (.list ((prodR n.toNat m.toNat r1 r2).map fun r => rowD r.1 r.2)), .non, .non] _ _
  repeat' walk_at "dl"
  exact hR
theorem ok_shifted {f : Addr} {fd : FuncData} (F : Fun K "shifted" "shifted" st_shifted f fd) (T : Tx mg) (c_dot : Has P w K mg base "dot" 1 ["one", "other"] (spG mDot)) (c_whole : Has P w K mg base "whole" 1 ["fractions"] (spG mWhole)) (c_plain_row : Has P w K mg base "plain_row" 2 ["row"] (spG mPlain))  : FnOk P w K mg base CX0 3 f fd ["room", "point"] (spG mShifted) := by
  have nd := sc_shifted.nd
  refine fn_dl F sc_shifted (fun B es R ⟨a, b, c, e, _⟩ => by rw [e]; rfl) fun cdv A outer s H E hr B es R hm => ?_
  have hu := hu_of hr
  have hu64 := hr.units
  obtain ⟨n, rows, p, rfl, h, hx, hR⟩ := hm
  refine ⟨_, (pss_cons (ps_asg (c_whole.call hr (pa_cons (pv 1) pa_nil)) (kTg (K := K) (n := 2) rfl rfl (pgs_cons (pg_name (i := 2) nd rfl (by first | exact Or.inl rfl | exact Or.inr rfl)) (pgs_cons (pg_name (i := 3) nd rfl (by first | exact Or.inl rfl | exact Or.inr rfl)) pgs_nil))))
      (pss_cons (ps_set (i := 4) nd rfl (by first | exact Or.inl rfl | exact Or.inr rfl) (pe_lst pa_nil))
      (pss_cons (ps_for PassesOwn.never rfl (kTuple (K := K) rfl (pe_ix (kIx (K := K) rfl) (pv 0) pe_int (fun _ _ => rfl))) (kTg (K := K) (n := 2) rfl rfl (pgs_cons (pg_name (i := 5) nd rfl (by first | exact Or.inl rfl | exact Or.inr rfl)) (pgs_cons (pg_name (i := 6) nd rfl (by first | exact Or.inl rfl | exact Or.inr rfl)) pgs_nil))) (pss_cons (ps_setLc (i := 7) rfl nd rfl rfl (sw_true rfl rfl rfl (by decide +kernel)) (own := [("k", 8)]) (kTuple (K := K) rfl (pv 5)) (blkOk_by (N := names_shifted) (sc := defScope st_shifted) (by decide +kernel)) (fun _ _ _ _ _ => (pg_name (i := 8) nd rfl (by first | exact Or.inl rfl | exact Or.inr rfl))) (fun _ _ _ _ _ => pts_nil) (fun _ _ _ _ _ => (pe_op (kMulN (K := K) rfl) (pv 8) (pv 3))))
      (pss_one (ps_expr (kBm (K := K) rfl PySem.F.plainAttrs_list PySem.F.slot_list_append PySem.F.type_list_append mt_append (pv 4) (pa_cons (c_plain_row.call hr (pa_cons (pe_tup (pa_cons (pe_callTy (kTup (K := K) rfl) (by rfl) T.tuple (by decide +kernel) (pa_cons (pv 7) pa_nil)) (pa_cons (pe_op (kAdd (K := K) rfl) (pe_op (kMulN (K := K) rfl) (pv 6) (pv 3)) (c_dot.call hr (pa_cons (pv 5) (pa_cons (pv 2) pa_nil)))) pa_nil))) pa_nil)) pa_nil))))))
      (pss_one (ps_ret (pe_tup (pa_cons (pe_ix (kIx (K := K) rfl) (pv 0) pe_int (fun _ _ => rfl)) (pa_cons (pe_callTy (kTup (K := K) rfl) (by rfl) T.tuple (by decide +kernel) (pa_cons (pv 4) pa_nil)) pa_nil)))))))), ?_⟩
  show SW B [.dat (roomD n rows), .dat (ptD p), .non, .non, .non, .non, .non, .non, .non] _ _
  refine sw_seq (sw_asg (ew_call ?_))
  repeat' walk_at "dl"
  · exact hx
  refine gw_tup ⟨_, rfl, rfl, gws_cons (gw_name (gws_cons (gw_name (gws_nil ?_))))⟩
  have hl := h.len
  refine sw_seq (sw_new (ea_nil (AllD.nil ⟨by decide, fun a => ?_⟩)))
  show SW B [.dat (roomD n rows), .dat (ptD p), .dat (intsD (wholeN p)), .dat (.int (lcmL p)), .own a [], .non, .non, .non, .non] _ _
  refine sw_seq (sw_for (it_tup ?_))
  repeat' walk_at "dl"
  refine ⟨fun i e => ∃ z1 z2 z3 z4, e = [.dat (roomD n rows), .dat (ptD p), .dat (intsD (wholeN p)), .dat (.int (lcmL p)), .own a (((shiftR rows p).take i).map fun r => rowD r.1 r.2), z1, z2, z3, z4], ⟨_, _, _, _, rfl⟩, ?_, ?_⟩
  · rintro i d e hd ⟨z1, z2, z3, z4, rfl⟩
    obtain ⟨r, hr', rfl⟩ := map_inv hd
    have hi : i < rows.length := (List.getElem?_eq_some_iff.mp hr').1
    have ho := h.row r (List.mem_of_getElem? hr')
    have hl2 := ho.len
    refine gw_tup ⟨_, rfl, rfl, gws_cons (gw_name (gws_cons (gw_name (gws_nil ?_))))⟩
    repeat' walk_at "dl"
    refine ew_lcEq ((r.1.map (· * lcmL p)).map PyData.int) (it_tup (ew_var rfl (ex_t ?_)))
    refine ⟨by simp; omega, by simp, fun j d u hd hu => ?_, ?_⟩
    · obtain ⟨x, hx', rfl⟩ := map_inv hd
      rw [List.map_map] at hu
      rw [map_get hx' hu]
      refine gc_name (by decide) ?_
      repeat' walk_at "dl"
      · exact (ho.ba x (List.mem_of_getElem? hx')).mulOk hx.lcm (by decide)
      · rfl
    show SW B _ _ _
    refine sw_append rfl (by rw [List.length_map, List.length_take]; omega) (ew_call ?_)
    repeat' walk_at "dl"
    · exact ho.bb.mulOk hx.lcm (by decide)
    · omega
    · exact (ho.mono (m := 2200) (by decide)).ba4 (by decide)
    · exact whole_bits hx
    · refine ⟨by rw [List.length_map]; exact hl2, fun y hy => ?_, (Bit.add ((ho.bb.mul hx.lcm).mono (m := 3900) (by decide)) ((dot_bit' (ho.mono (by decide)) hx).mono (by decide))).mono (by decide)⟩
      obtain ⟨x, hx', rfl⟩ := List.mem_map.mp hy
      exact ((ho.ba x hx').mul hx.lcm).mono (by decide)
    have e1 : (shiftR rows p)[i]? = some (plainR (r.1.map (· * lcmL p)) (r.2 * lcmL p + dotI r.1 (wholeN p))) := map_some hr'
    refine ⟨.dat (intsD r.1), .dat (.int r.2), .dat (.list ((r.1.map (· * lcmL p)).map PyData.int)), z4, ?_⟩
    rw [← take_at (f := fun r => rowD r.1 r.2) e1]
    rfl
  · rintro e ⟨z1, z2, z3, z4, rfl⟩
    refine sw_thaw 4 rfl ?_
    show SW B [.dat (roomD n rows), .dat (ptD p), .dat (intsD (wholeN p)), .dat (.int (lcmL p)), .dat (.list (((shiftR rows p).take (rows.map fun r => rowD r.1 r.2).length).map fun r => rowD r.1 r.2)), z1, z2, z3, z4] _ _
    have e1 : (shiftR rows p).take (rows.map fun r => rowD r.1 r.2).length = shiftR rows p := List.take_of_length_le (by unfold shiftR; simp)
    rw [e1]
    repeat' walk_at "dl"
    exact hR
theorem ok_boxed {f : Addr} {fd : FuncData} (F : Fun K "boxed" "boxed" st_boxed f fd) (T : Tx mg) (c_unit : Has P w K mg base "unit" 1 ["n", "place", "number"] (spG mUnit)) (c_plain_row : Has P w K mg base "plain_row" 2 ["row"] (spG mPlain))  : FnOk P w K mg base CX0 3 f fd ["low", "high"] (spG mBoxed) := by
  have nd := sc_boxed.nd
  refine fn_dl F sc_boxed (fun B es R ⟨a, b, e, _⟩ => by rw [e]; rfl) fun cdv A outer s H E hr B es R hm => ?_
  have hu := hu_of hr
  have hu64 := hr.units
  obtain ⟨low, high, rfl, he, hl, h1, h2, hR⟩ := hm
  refine ⟨_, (pss_cons (ps_set (i := 2) nd rfl (by first | exact Or.inl rfl | exact Or.inr rfl) (pe_callB (kLen (K := K) rfl) (by rfl) T.len (by decide +kernel) (pa_cons (pv 0) pa_nil)))
      (pss_cons (ps_set (i := 3) nd rfl (by first | exact Or.inl rfl | exact Or.inr rfl) (pe_lst pa_nil))
      (pss_cons (ps_for PassesOwn.never rfl (pi_range1 (by rfl) T.range (pa_cons (pv 2) pa_nil)) (pg_name (i := 4) nd rfl (by first | exact Or.inl rfl | exact Or.inr rfl)) (pss_cons (ps_asg (pe_ix (kIx (K := K) rfl) (pv 1) (pv 4) (fun _ _ => rfl)) (kTg (K := K) (n := 2) rfl rfl (pgs_cons (pg_name (i := 5) nd rfl (by first | exact Or.inl rfl | exact Or.inr rfl)) (pgs_cons (pg_name (i := 6) nd rfl (by first | exact Or.inl rfl | exact Or.inr rfl)) pgs_nil))))
      (pss_cons (ps_expr (kBm (K := K) rfl PySem.F.plainAttrs_list PySem.F.slot_list_append PySem.F.type_list_append mt_append (pv 3) (pa_cons (c_plain_row.call hr (pa_cons (pe_tup (pa_cons (c_unit.call hr (pa_cons (pv 2) (pa_cons (pv 4) (pa_cons (pv 6) pa_nil)))) (pa_cons (pv 5) pa_nil))) pa_nil)) pa_nil)))
      (pss_cons (ps_asg (pe_ix (kIx (K := K) rfl) (pv 0) (pv 4) (fun _ _ => rfl)) (kTg (K := K) (n := 2) rfl rfl (pgs_cons (pg_name (i := 5) nd rfl (by first | exact Or.inl rfl | exact Or.inr rfl)) (pgs_cons (pg_name (i := 6) nd rfl (by first | exact Or.inl rfl | exact Or.inr rfl)) pgs_nil))))
      (pss_one (ps_expr (kBm (K := K) rfl PySem.F.plainAttrs_list PySem.F.slot_list_append PySem.F.type_list_append mt_append (pv 3) (pa_cons (c_plain_row.call hr (pa_cons (pe_tup (pa_cons (c_unit.call hr (pa_cons (pv 2) (pa_cons (pv 4) (pa_cons (pe_un un_neg (pv 6)) pa_nil)))) (pa_cons (pe_un un_neg (pv 5)) pa_nil))) pa_nil)) pa_nil))))))))
      (pss_one (ps_ret (pe_tup (pa_cons (pv 2) (pa_cons (pe_callTy (kTup (K := K) rfl) (by rfl) T.tuple (by decide +kernel) (pa_cons (pv 3) pa_nil)) pa_nil)))))))), ?_⟩
  show SW B [.dat (ptD low), .dat (ptD high), .non, .non, .non, .non, .non] _ _
  refine sw_mid (fun e => e = [.dat (ptD low), .dat (ptD high), .dat (.int low.length), .non, .non, .non, .non]) ?_ ?_
  · repeat' walk_at "dl"
    show _ = _
    rw [List.length_map]
    rfl
  rintro e rfl
  refine sw_seq (sw_new (ea_nil (AllD.nil ⟨by decide, fun a => ?_⟩)))
  show SW B [.dat (ptD low), .dat (ptD high), .dat (.int low.length), .own a [], .non, .non, .non] _ _
  refine sw_seq (sw_for (it_range1 ?_))
  repeat' walk_at "dl"
  refine ⟨_, rfl, by omega, by omega, ?_⟩
  refine ⟨fun i e => ∃ z1 z2 z3, e = [.dat (ptD low), .dat (ptD high), .dat (.int low.length), .own a ((boxF low high i).map fun r => rowD r.1 r.2), z1, z2, z3], ⟨_, _, _, rfl⟩, ?_, ?_⟩
  · rintro i d e hd ⟨z1, z2, z3, rfl⟩
    obtain ⟨hi, rfl⟩ := rangeD_inv hd
    rw [Int.toNat_natCast] at hi
    have ex : low[i]? = some low[i] := List.getElem?_eq_getElem hi
    have ey : high[i]? = some (high[i]'(by omega)) := List.getElem?_eq_getElem _
    have fx := h1.fq _ (List.mem_of_getElem? ex)
    have fy := h2.fq _ (List.mem_of_getElem? ey)
    have gx := getD_map (d := (0, 1)) ex
    have gy := getD_map (d := (0, 1)) ey
    have eb : boxF low high (i + 1) = boxF low high i ++ boxAt low high i := by unfold boxF; rw [List.range_succ, List.map_append, List.flatten_append]; simp
    have lb : (boxF low high i).length ≤ 2 * i := by
      unfold boxF
      rw [List.length_flatten, List.map_map]
      have : ∀ n, ((List.range n).map (List.length ∘ boxAt low high)).sum = 2 * n := fun n => by
        induction n with
        | zero => rfl
        | succ n ih => rw [List.range_succ, List.map_append, List.sum_append, ih]; show 2 * n + 2 = _; omega
      rw [this]
      exact Nat.le_refl _
    unfold boxAt at eb
    rw [gx, gy] at eb
    generalize low[i] = x at *
    generalize high[i]'(by omega) = y at *
    rw [Int.zero_add]
    refine gw_name ?_
    refine sw_seq (sw_asg (ew_op ?_))
    repeat' walk_at "dl"
    refine od_ix ⟨_, _, _, rfl, rfl, atI_nat (map_some ey), ?_⟩
    refine gw_tup ⟨_, rfl, rfl, gws_cons (gw_name (gws_cons (gw_name (gws_nil ?_))))⟩
    show SW B _ _ _
    refine sw_seq (sw_append rfl (by rw [List.length_map]; omega) (ew_call ?_))
    repeat' walk_at "dl"
    · omega
    · omega
    · exact unit_ok (by simp; omega) (fy.b2.mono (by decide)) (fy.b1.mono (by decide))
    refine sw_seq (sw_asg (ew_op ?_))
    repeat' walk_at "dl"
    refine od_ix ⟨_, _, _, rfl, rfl, atI_nat (map_some ex), ?_⟩
    refine gw_tup ⟨_, rfl, rfl, gws_cons (gw_name (gws_cons (gw_name (gws_nil ?_))))⟩
    show SW B [.dat (ptD low), .dat (ptD high), .dat (.int low.length), .own a ((boxF low high i).map (fun r => rowD r.1 r.2) ++ [rowD (plainR (unitL low.length i y.2) y.1).1 (plainR (unitL low.length i y.2) y.1).2]), .dat (.int i), .dat (.int x.1), .dat (.int x.2)] _ _
    refine sw_nx ?_
    refine sw_append rfl (by rw [List.length_append, List.length_map, List.length_singleton]; omega) (ew_call ?_)
    repeat' walk_at "dl"
    · omega
    · omega
    · exact unit_ok (by simp; omega) (fx.b2.neg.mono (by decide)) (fx.b1.neg.mono (by decide))
    refine ⟨.dat (.int i), .dat (.int x.1), .dat (.int x.2), ?_⟩
    rw [eb, List.map_append]
    exact congrArg (fun l => [Ent.dat (ptD low), .dat (ptD high), .dat (.int low.length), .own a l, .dat (.int i), .dat (.int x.1), .dat (.int x.2)]) (List.append_assoc _ _ _)
  · rintro e ⟨z1, z2, z3, rfl⟩
    refine sw_thaw 3 rfl ?_
    show SW B [.dat (ptD low), .dat (ptD high), .dat (.int low.length), .dat (.list ((boxF low high (rangeD 0 (low.length : Int).toNat).length).map fun r => rowD r.1 r.2)), z1, z2, z3] _ _
    have e1 : (rangeD 0 (low.length : Int).toNat).length = low.length := by simp [rangeD]
    rw [e1]
    repeat' walk_at "dl"
    exact hR
theorem ok_image_of {f : Addr} {fd : FuncData} (F : Fun K "image_of" "image_of" st_image_of f fd) (T : Tx mg) (c_plus : Has P w K mg base "plus" 2 ["one", "other"] (spG (mBin pl))) (c_times : Has P w K mg base "times" 2 ["one", "other"] (spG (mBin tm))) (c_total : Has P w K mg base "total" 3 ["fractions"] (spG mTotal))  : FnOk P w K mg base CX0 4 f fd ["matrix", "point", "shift"] (spG mImage) := by
  have nd := sc_image_of.nd
  refine fn_dl F sc_image_of (fun B es R ⟨a, b, c, e, _⟩ => by rw [e]; rfl) fun cdv A outer s H E hr B es R hm => ?_
  have hu := hu_of hr
  have hu64 := hr.units
  obtain ⟨mat, pt, sh, rfl, h1, h2, h3, hR⟩ := hm
  refine ⟨_, (pss_cons (ps_set (i := 3) nd rfl (by first | exact Or.inl rfl | exact Or.inr rfl) (pe_lst pa_nil))
      (pss_cons (ps_for PassesOwn.never rfl (kZipM (K := K) rfl (by rfl) T.zip (pa_cons (pv 0) (pa_cons (pv 2) pa_nil))) (kTg (K := K) (n := 2) rfl rfl (pgs_cons (pg_name (i := 4) nd rfl (by first | exact Or.inl rfl | exact Or.inr rfl)) (pgs_cons (pg_name (i := 5) nd rfl (by first | exact Or.inl rfl | exact Or.inr rfl)) pgs_nil))) (pss_one (ps_expr (kBm (K := K) rfl PySem.F.plainAttrs_list PySem.F.slot_list_append PySem.F.type_list_append mt_append (pv 3) (pa_cons (c_plus.call hr (pa_cons (c_total.call hr (pa_cons (pe_lc (own := [("m", 6), ("x", 7)]) rfl nd (kZipM (K := K) rfl (by rfl) T.zip (pa_cons (pv 4) (pa_cons (pv 1) pa_nil))) (blkOk_by (N := names_image_of) (sc := defScope st_image_of) (by decide +kernel)) (fun _ _ _ _ _ => (kTg (K := K) (n := 2) rfl rfl (pgs_cons (pg_name (i := 6) nd rfl (by first | exact Or.inl rfl | exact Or.inr rfl)) (pgs_cons (pg_name (i := 7) nd rfl (by first | exact Or.inl rfl | exact Or.inr rfl)) pgs_nil)))) (fun _ _ _ _ _ => pts_nil) (fun _ _ _ _ _ => (c_times.call hr (pa_cons (pv 6) (pa_cons (pv 7) pa_nil))))) pa_nil)) (pa_cons (pv 5) pa_nil))) pa_nil)))))
      (pss_one (ps_ret (pe_callTy (kTup (K := K) rfl) (by rfl) T.tuple (by decide +kernel) (pa_cons (pv 3) pa_nil)))))), ?_⟩
  show SW B [.dat (matD mat), .dat (ptD pt), .dat (ptD sh), .non, .non, .non, .non, .non] _ _
  have l1 := h1.len
  have l2 := h2.len
  have l3 := h3.len
  refine sw_seq (sw_new (ea_nil (AllD.nil ⟨by decide, fun a => ?_⟩)))
  show SW B [.dat (matD mat), .dat (ptD pt), .dat (ptD sh), .own a [], .non, .non, .non, .non] _ _
  refine sw_seq (sw_for (it_zipM ?_))
  repeat' walk_at "dl"
  refine ⟨_, _, _, _, rfl, rfl, rfl, ?_⟩
  refine ⟨fun i e => ∃ z1 z2 z3 z4, e = [.dat (matD mat), .dat (ptD pt), .dat (ptD sh), .own a (((imgF mat pt sh).take i).map frD), z1, z2, z3, z4], ⟨_, _, _, _, rfl⟩, ?_, ?_⟩
  · rintro i d e hd ⟨z1, z2, z3, z4, rfl⟩
    obtain ⟨d1, d2, hd1, hd2, rfl⟩ := zipD_inv hd
    obtain ⟨l, hl, rfl⟩ := map_inv hd1
    obtain ⟨m, hm, rfl⟩ := map_inv hd2
    have hi : i < mat.length := (List.getElem?_eq_some_iff.mp hl).1
    have q := h1.fq l (List.mem_of_getElem? hl)
    have fm := h3.fq m (List.mem_of_getElem? hm)
    have q1 := q.1
    refine gw_tup ⟨_, rfl, rfl, gws_cons (gw_name (gws_cons (gw_name (gws_nil ?_))))⟩
    show SW B _ _ _
    refine sw_append rfl (by rw [List.length_map, List.length_take]; omega) (ew_call ?_)
    repeat' walk_at "dl"
    refine ew_lcEq ((List.zipWith tm l pt).map frD) (it_zipM ?_)
    repeat' walk_at "dl"
    refine ⟨_, _, _, _, rfl, rfl, rfl, by simp [zipD]; omega, by simp [zipD], fun j d u hd hu => ?_, ?_⟩
    · obtain ⟨d1, d2, hd1, hd2, rfl⟩ := zipD_inv hd
      obtain ⟨x, hx, rfl⟩ := map_inv hd1
      obtain ⟨y, hy, rfl⟩ := map_inv hd2
      rw [map_get (zw_get hx hy) hu]
      refine gc_tup ⟨_, rfl, rfl, gcs_cons (gc_name (by decide) (gcs_cons (gc_name (by decide) (gcs_nil ?_))))⟩
      repeat' walk_at "dl"
      refine ⟨x, y, rfl, (q.2 x (List.mem_of_getElem? hx)).mono (by decide), (h2.fq y (List.mem_of_getElem? hy)).mono (by decide), rfl⟩
    repeat' walk_at "dl"
    refine ⟨false, List.zipWith tm l pt, rfl, tms_fq q.2 h2.fq, by have := tms_len (pt := pt) q1; omega, ?_⟩
    repeat' walk_at "dl"
    refine ⟨_, m, rfl, (sum_fq q1 q.2 h2.fq).mono (by decide), fm.mono (by decide), ?_⟩
    have e1 : (imgF mat pt sh)[i]? = some (pl (totF (List.zipWith tm l pt)) m) := zw_get hl hm
    refine ⟨.dat (ptD l), .dat (frD m), z3, z4, ?_⟩
    rw [← take_at (f := frD) e1]
    rfl
  · rintro e ⟨z1, z2, z3, z4, rfl⟩
    refine sw_thaw 3 rfl ?_
    show SW B [.dat (matD mat), .dat (ptD pt), .dat (ptD sh), .dat (.list (((imgF mat pt sh).take (zipD (mat.map ptD) (sh.map frD)).length).map frD)), z1, z2, z3, z4] _ _
    have e1 : (imgF mat pt sh).take (zipD (mat.map ptD) (sh.map frD)).length = imgF mat pt sh := List.take_of_length_le (by unfold imgF; simp [zipD])
    rw [e1]
    repeat' walk_at "dl"
    exact hR
theorem ok_next_of {f : Addr} {fd : FuncData} (F : Fun K "next_of" "next_of" st_next_of f fd) (T : Tx mg) (c_image_of : Has P w K mg base "image_of" 4 ["matrix", "point", "shift"] (spG mImage))  : FnOk P w K mg base CX0 5 f fd ["plant", "x", "u", "w"] (spG mNext) := by
  have nd := sc_next_of.nd
  refine fn_dl F sc_next_of (fun B es R ⟨a, b, c, d, e, f, g, h, i, q, _⟩ => by rw [q]; rfl) fun cdv A outer s H E hr B es R hm => ?_
  have hu := hu_of hr
  have hu64 := hr.units
  obtain ⟨a, b, e, c, x, u, w', r1, r2, rfl, ha, hb, he, hc, hx, hu', hw, hR⟩ := hm
  refine ⟨_, (pss_cons (ps_asg (pe_slice (kSl (K := K) rfl) (pv 0) po_none (po_some pe_int)) (kTg (K := K) (n := 4) rfl rfl (pgs_cons (pg_name (i := 4) nd rfl (by first | exact Or.inl rfl | exact Or.inr rfl)) (pgs_cons (pg_name (i := 5) nd rfl (by first | exact Or.inl rfl | exact Or.inr rfl)) (pgs_cons (pg_name (i := 6) nd rfl (by first | exact Or.inl rfl | exact Or.inr rfl)) (pgs_cons (pg_name (i := 7) nd rfl (by first | exact Or.inl rfl | exact Or.inr rfl)) pgs_nil))))))
      (pss_cons (ps_set (i := 8) nd rfl (by first | exact Or.inl rfl | exact Or.inr rfl) (c_image_of.call hr (pa_cons (pv 4) (pa_cons (pv 1) (pa_cons (pv 7) pa_nil)))))
      (pss_cons (ps_set (i := 8) nd rfl (by first | exact Or.inl rfl | exact Or.inr rfl) (c_image_of.call hr (pa_cons (pv 5) (pa_cons (pv 2) (pa_cons (pv 8) pa_nil)))))
      (pss_one (ps_ret (c_image_of.call hr (pa_cons (pv 6) (pa_cons (pv 3) (pa_cons (pv 8) pa_nil))))))))), ?_⟩
  show SW B [.dat (plantD a b e c r1 r2), .dat (ptD x), .dat (ptD u), .dat (ptD w'), .non, .non, .non, .non, .non] _ _
  refine sw_seq (sw_asg (ew_sl ?_))
  repeat' walk_at "dl"
  refine gw_tup ⟨_, rfl, rfl, gws_cons (gw_name (gws_cons (gw_name (gws_cons (gw_name (gws_cons (gw_name (gws_nil ?_))))))))⟩
  show SW B [.dat (plantD a b e c r1 r2), .dat (ptD x), .dat (ptD u), .dat (ptD w'), .dat (matD a), .dat (matD b), .dat (matD e), .dat (ptD c), .non] _ _
  have c1 := img_ok ha hx hc
  have c2 := img_ok hb hu' c1
  repeat' walk_at "dl"
  refine image_at ha hx (hc.mono (by decide)) ?_
  repeat' walk_at "dl"
  refine image_at hb hu' (c1.mono (by decide)) ?_
  repeat' walk_at "dl"
  refine image_at he hw (c2.mono (by decide)) ?_
  exact hR
end
end E3
end
section
set_option Elab.async false
set_option linter.all false
set_option maxRecDepth 100000
set_option maxHeartbeats 0
namespace E3
open PySem L2 PySem.Spec PyProof.Rows Dl RZ Ev

def mFrac (B : Fr) (es : List Ent) (R : PyData → Prop) : Prop := ∃ (p l : Addr), B = Fsrc p l ∧ es = [.raw (.ref p)] ∧ ∀ x : Int × Int, Fq 80 x → Nf x → R (frD x)
theorem frac_at {p l : Addr} {R : PyData → Prop} (h : ∀ x : Int × Int, Fq 80 x → Nf x → R (frD x)) : mFrac (Fsrc p l) [.raw (.ref p)] R := ⟨p, l, rfl, rfl, h⟩
def seqD (t : Bool) (ds : List PyData) : PyData := if t = true then .tuple ds else .list ds
def mRowOnes (_ : Fr) (es : List Ent) (R : PyData → Prop) : Prop := ∃ (t : Bool) (a : List Int) (y : Int × Int), es = [.dat (seqD t ((onesF a).map frD)), .dat (frD y)] ∧ a.length ≤ 6 ∧ (∀ x, x ∈ a → Bit 200 x) ∧ Fq 1900 y ∧ R (rowD (plainR (a.map (· * y.2)) y.1).1 (plainR (a.map (· * y.2)) y.1).2)
def mIsIn (_ : Fr) (es : List Ent) (R : PyData → Prop) : Prop := ∃ (n : Int) (rows : Rows) (xs : List (Int × Int)), es = [.dat (roomD n rows), .dat (ptD xs)] ∧ RmK 200 rows ∧ PtOk xs ∧ (∀ r, r ∈ rows → r.1.length = xs.length) ∧ R (.bool (isInB rows xs))
theorem isin_at {n : Int} {rows : Rows} {xs : List (Int × Int)} {B : Fr} {R : PyData → Prop} (h1 : RmK 200 rows) (h2 : PtOk xs) (h3 : ∀ r, r ∈ rows → r.1.length = xs.length) (r : R (.bool (isInB rows xs))) : mIsIn B [.dat (.tuple [.int n, .tuple (rows.map fun r => .tuple [.tuple (r.1.map PyData.int), .int r.2])]), .dat (.tuple (xs.map frD))] R := ⟨n, rows, xs, rfl, h1, h2, h3, r⟩
structure RmD (n : Nat) (rows : Rows) : Prop where
  len : rows.length ≤ 12
  row : ∀ r, r ∈ rows → r.1.length = n ∧ RowOk 170 r.1 r.2
def mRoomD (B : Fr) (es : List Ent) (R : PyData → Prop) : Prop := ∃ (p l : Addr) (n : Int), B = Fsrc p l ∧ es = [.raw (.ref p), .dat (.int n)] ∧ 0 ≤ n ∧ n ≤ 6 ∧ ∀ rows, RmD n.toNat rows → R (roomD n rows)
structure PtD (n : Nat) (xs : List (Int × Int)) : Prop where
  len : xs.length = n
  fq : ∀ x, x ∈ xs → Fq 80 x ∧ Nf x
def mPoint (B : Fr) (es : List Ent) (R : PyData → Prop) : Prop := ∃ (p l : Addr) (n : Int), B = Fsrc p l ∧ es = [.raw (.ref p), .dat (.int n)] ∧ 0 ≤ n ∧ n ≤ 6 ∧ ∀ xs, PtD n.toNat xs → R (ptD xs)
theorem roomD_at {p l : Addr} {n : Int} {R : PyData → Prop} (h0 : 0 ≤ n) (h1 : n ≤ 6) (h : ∀ rows, RmD n.toNat rows → R (roomD n rows)) : mRoomD (Fsrc p l) [.raw (.ref p), .dat (.int n)] R := ⟨p, l, n, rfl, rfl, h0, h1, h⟩
theorem point_at {p l : Addr} {n : Int} {R : PyData → Prop} (h0 : 0 ≤ n) (h1 : n ≤ 6) (h : ∀ xs, PtD n.toNat xs → R (ptD xs)) : mPoint (Fsrc p l) [.raw (.ref p), .dat (.int n)] R := ⟨p, l, n, rfl, rfl, h0, h1, h⟩
theorem ones_mem {a : List Int} {y x : Int × Int} (ha : ∀ x, x ∈ a → Bit 200 x) (hy : Fq 1900 y) (h : x ∈ onesF a ++ [y]) : Fq 1900 x ∧ x.2 ∣ y.2 := by
  rcases List.mem_append.mp h with q | q
  · obtain ⟨z, hz, rfl⟩ := List.mem_map.mp q
    exact ⟨⟨Int.one_pos, (ha z hz).mono (by decide), (show Bit 1 (1 : Int) by unfold Bit; decide).mono (by decide)⟩, Int.one_dvd _⟩
  · rw [List.mem_singleton.mp q]
    exact ⟨hy, Int.dvd_refl _⟩
theorem lcm_bit {zs : List (Int × Int)} {n : Nat} {M : Int} (h : ∀ x, x ∈ zs → 0 < x.2 ∧ x.2 ∣ M) (hM : 0 < M) (hb : Bit n M) : 0 < lcmL zs ∧ Bit n (lcmL zs) := by
  have d : lcmL zs ∣ M := lcmF_least zs 1 (Int.one_dvd _) fun x hx => (h x hx).2
  have p : 0 < lcmL zs := lcmL_pos fun x hx => (h x hx).1
  refine ⟨p, ?_⟩
  have := Int.le_of_dvd hM d
  unfold Bit at *
  omega
theorem isin_one {a : List Int} {b : Int} {xs : List (Int × Int)} (h : ∀ x, x ∈ xs → 0 < x.2) : decide ((pl (b, 1) (tm (0 - 1, 1) (reachR a xs))).1 < 0) = brokenB a b xs := by
  have hL := lcmL_pos h
  rw [broken_is h, ← over_is h]
  obtain ⟨g, g0, e1, e2, b0⟩ := lst_mk (p := dotI a (wholeN xs)) hL
  have eR : reachR a xs = lst (dotI a (wholeN xs)) (lcmL xs) := rfl
  rw [eR]
  generalize lst (dotI a (wholeN xs)) (lcmL xs) = r at *
  obtain ⟨k, k0, f1, f2, c0⟩ := lst_mk (p := (0 - 1) * r.1) (q := 1 * r.2) (by omega)
  unfold tm
  show decide ((pl (b, 1) (lst ((0 - 1) * r.1) (1 * r.2))).1 < 0) = _
  generalize lst ((0 - 1) * r.1) (1 * r.2) = t at *
  unfold pl
  rw [decide_eq_decide, (lst_sign (p := b * t.2 + t.1 * 1) (q := 1 * t.2) (by omega)).2, (lst_sign (p := b * r.2 - r.1) b0).2]
  have e : b * r.2 - r.1 = (b * t.2 + t.1 * 1) * k := by
    have : r.2 = t.2 * k := by omega
    have : r.1 = -(t.1 * k) := by omega
    grind
  rw [e]
  constructor
  · intro z
    exact Int.mul_neg_of_neg_of_pos z k0
  · intro z
    by_cases q : b * t.2 + t.1 * 1 < 0
    · exact q
    · have := Int.mul_nonneg (show 0 ≤ b * t.2 + t.1 * 1 by omega) (show 0 ≤ k by omega)
      omega
def negF (d : PyData) : Option PyData := match d with
  | .tuple [.int p, q] => if p < 0 then some (.tuple [.int p, q]) else none
  | _ => none
def ovR (a : List Int) (b : Int) (xs : List (Int × Int)) : Int × Int := pl (b, 1) (tm (0 - 1, 1) (reachR a xs))
theorem neg_is {rows : Rows} {xs : List (Int × Int)} (h : ∀ x, x ∈ xs → 0 < x.2) : decide (((rows.map fun r => frD (ovR r.1 r.2 xs)).filterMap negF) = []) = isInB rows xs := by
  have e : isInB rows xs = decide (∀ r, r ∈ rows → brokenB r.1 r.2 xs = false) := by
    unfold isInB brokenL
    rw [Bool.eq_iff_iff, List.isEmpty_iff, decide_eq_true_iff, List.filterMap_eq_nil_iff]
    constructor
    · intro z r hr
      obtain ⟨i, hi⟩ := List.getElem?_of_mem hr
      have := z i (List.mem_range.mpr (List.getElem?_eq_some_iff.mp hi).1)
      unfold brokenO at this
      rw [hi] at this
      cases q : brokenB r.1 r.2 xs with
      | false => rfl
      | true => simp [q] at this
    · intro z i hi
      unfold brokenO
      cases q : rows[i]? with
      | none => rfl
      | some r => simp [z r (List.mem_of_getElem? q)]
  rw [e, decide_eq_decide, List.filterMap_eq_nil_iff]
  constructor
  · intro z r hr
    have := z _ (List.mem_map.mpr ⟨r, hr, rfl⟩)
    rw [← isin_one h]
    unfold negF at this
    dsimp only at this
    split at this
    · cases this
    · rename_i q
      exact decide_eq_false q
  · intro z d hd
    obtain ⟨r, hr, rfl⟩ := List.mem_map.mp hd
    have := z r hr
    rw [← isin_one h] at this
    unfold negF
    exact if_neg (of_decide_eq_false this)
local macro_rules | `(tactic| walk_at "dl") => `(tactic| first
  | ((with_reducible refine ew_varE ?_); refine ⟨_, rfl, ?_⟩)
  | ((with_reducible refine ew_int ?_))
  | ((with_reducible refine ew_str ?_))
  | ((with_reducible refine ew_bl ?_))
  | ((with_reducible refine ew_non ?_))
  | ((with_reducible refine ew_op ?_))
  | ((with_reducible refine ew_un ?_))
  | ((with_reducible refine ew_tup ?_))
  | ((with_reducible refine ew_lst ?_))
  | ((with_reducible refine ew_call ?_))
  | ((with_reducible refine ew_isi ?_))
  | ((with_reducible refine ew_cb ?_))
  | ((with_reducible refine ea_nil ?_))
  | ((with_reducible refine ea_rawE ?_); refine ⟨_, rfl, ?_⟩)
  | ((with_reducible refine ea_cons ?_))
  | ((with_reducible refine AllD.nil ?_))
  | ((with_reducible refine AllD.cons ?_))
  | ((with_reducible refine ew_isN ?_))
  | ((with_reducible refine ew_sl ?_))
  | ((with_reducible refine eo_none ?_))
  | ((with_reducible refine eo_some ?_))
  | ((with_reducible refine sd_list ?_); refine ⟨_, rfl, ?_⟩)
  | ((with_reducible refine sd_tup ?_); refine ⟨_, rfl, ?_⟩)
  | ((with_reducible refine tw_test ?_))
  | ((with_reducible refine tw_B ?_))
  | ((with_reducible refine tw_not ?_))
  | ((with_reducible refine tw_and ?_))
  | ((with_reducible refine tw_or ?_))
  | ((with_reducible refine ew_andV ?_))
  | ((with_reducible refine ew_orV ?_))
  | ((with_reducible refine ew_notV ?_))
  | ((with_reducible refine sw_seq ?_))
  | ((with_reducible refine sw_if ?_))
  | ((with_reducible refine sw_ret ?_))
  | ((with_reducible refine sw_set ?_))
  | ((with_reducible refine sw_par ?_))
  | ((with_reducible refine sw_nx ?_))
  | ((with_reducible refine od_ix ?_); refine ⟨_, _, _, rfl, rfl, rfl, ?_⟩)
  | ((with_reducible refine od_mulI ?_); refine ⟨_, _, rfl, rfl, ?_, ?_⟩)
  | ((with_reducible refine od_mulNI ?_); refine ⟨_, _, rfl, rfl, ?_, ?_⟩)
  | ((with_reducible refine od_addI ?_); refine ⟨_, _, rfl, rfl, ?_⟩)
  | ((with_reducible refine od_addL ?_); refine ⟨_, _, rfl, rfl, ?_, ?_⟩)
  | ((with_reducible refine od_addT ?_); refine ⟨_, _, rfl, rfl, ?_, ?_⟩)
  | ((with_reducible refine od_I0 ?_); refine ⟨_, _, rfl, rfl, ?_⟩)
  | ((with_reducible refine od_B0 ?_); refine ⟨_, _, rfl, rfl, ?_⟩)
  | ((with_reducible refine od_I ?_); refine ⟨_, _, rfl, rfl, ?_, ?_⟩)
  | ((with_reducible refine ud_I ?_); refine ⟨_, rfl, ?_⟩)
  | ((with_reducible refine od_eqI' ?_))
  | ((with_reducible refine od_neI' ?_))
  | ((with_reducible refine od_eqS' ?_))
  | ((with_reducible refine od_neS' ?_))
  | ((with_reducible refine cd_gcd ?_); refine ⟨_, _, rfl, ?_⟩)
  | ((with_reducible refine cd_lcm ?_); refine ⟨_, _, rfl, ?_, ?_, ?_⟩)
  | ((with_reducible refine qAbs ?_); refine ⟨_, rfl, ?_⟩)
  | ((with_reducible refine qInt ?_); refine ⟨_, rfl, ?_⟩)
  | ((with_reducible refine qLen ?_); refine ⟨_, _, rfl, rfl, ?_⟩)
  | ((with_reducible refine qTup ?_); refine ⟨_, _, rfl, rfl, ?_⟩)
  | ((with_reducible refine qLst ?_); refine ⟨_, _, rfl, rfl, ?_⟩)
  | ((with_reducible refine cd_anyT ?_); refine ⟨_, rfl, ?_⟩)
  | ((with_reducible refine cd_sum ?_); refine ⟨_, rfl, ?_⟩)
  | ((with_reducible refine qIntB ?_); refine ⟨_, rfl, ?_⟩)
  | ((with_reducible refine qMax2 ?_); refine ⟨_, _, rfl, ?_⟩)
  | ((with_reducible refine cd_all ?_); refine ⟨_, rfl, ?_⟩)
  | ((with_reducible refine ex_b ?_))
  | ((with_reducible refine ex_i ?_))
  | ((with_reducible refine ex_t ?_))
  | ((with_reducible refine ex_l ?_))
  | ((with_reducible refine ex_2 ?_))
  | ((with_reducible refine pick_atE ?_); refine ⟨by decide, fun r h0 h1 => ?_⟩)
  | ((with_reducible refine great_atE ?_); refine ⟨_, rfl, by decide, by decide, fun n h0 h1 => ?_⟩)
  | ((with_reducible refine of_atE ?_); refine ⟨by simp, Nat.le_of_ble_eq_true rfl, ?_⟩)
  | ((with_reducible refine ldiv_at ?_ ?_))
  | ((with_reducible refine plain_at ?_ ?_))
  | ((with_reducible refine od_mulNT ?_); refine ⟨_, _, rfl, rfl, ?_, ?_, ?_⟩)
  | ((with_reducible refine len_and ?_ ?_); exact Nat.le_of_ble_eq_true rfl)
  | ((with_reducible refine own_and ?_ ?_); rfl))
section
variable {P : Program} {w : World} {K : PySem.W.Frag} {mg : Str → Option Value} {base : Heap}
theorem ok_l_times {f : Addr} {fd : FuncData} (F : Fun K "_law_times" "_law_times" st_l_times f fd) (T : Tx mg) (c_l_least : Has P w K mg base "_law_least" 1 ["a", "b"] (spG mLeast))  : FnOk P w K mg base CX0 2 f fd ["x", "y"] (spG (mBin tm)) := by
  have nd := sc_l_times.nd
  refine fn_dl F sc_l_times (fun B es R ⟨a, b, e, _⟩ => by rw [e]; rfl) fun cdv A outer s H E hr B es R hm => ?_
  have hu := hu_of hr
  have hu64 := hr.units
  obtain ⟨x, y, rfl, hx, hy, hR⟩ := hm
  refine ⟨_, (pss_one (ps_ret (c_l_least.call hr (pa_cons (pe_op (kMulN (K := K) rfl) (pe_ix (kIx (K := K) rfl) (pv 0) pe_int (fun _ _ => rfl)) (pe_ix (kIx (K := K) rfl) (pv 1) pe_int (fun _ _ => rfl))) (pa_cons (pe_op (kMulN (K := K) rfl) (pe_ix (kIx (K := K) rfl) (pv 0) pe_int (fun _ _ => rfl)) (pe_ix (kIx (K := K) rfl) (pv 1) pe_int (fun _ _ => rfl))) pa_nil))))), ?_⟩
  show SW B [.dat (frD x), .dat (frD y)] _ _
  repeat' walk_at "dl"
  · exact hx.b1.mulOk hy.b1 (by decide)
  · exact hx.b2.mulOk hy.b2 (by decide)
  · exact least_at (mul_ne hx.pos (by have := hy.pos; omega)) ((hx.b2.mul hy.b2).mono (by decide)) hR
theorem ok_l_number {f : Addr} {fd : FuncData} (F : Fun K "_law_number" "_law_number" st_l_number f fd) (T : Tx mg) (c_l_pick : Has P w K mg base "_law_pick" 1 ["source", "many"] (spG mPick)) (c_l_great : Has P w K mg base "_law_great" 2 ["source", "figures"] (spG mGreat))  : FnOk P w K mg base CX0 3 f fd ["source"] (spG mNumber) := by
  have nd := sc_l_number.nd
  refine fn_dl F sc_l_number (fun B es R ⟨p, l, _, e, _⟩ => by rw [e]; rfl) fun cdv A outer s H E hr B es R hm => ?_
  have hu := hu_of hr
  have hu64 := hr.units
  obtain ⟨a, l, rfl, rfl, hR⟩ := hm
  refine ⟨_, (pss_cons (ps_par (i := 1) (j := 2) (by rfl) nd rfl rfl (by decide) rfl rfl (pa_cons (c_l_pick.call hr (pa_cons (pv 0) (pa_cons pe_int pa_nil))) (pa_cons (pe_op op_sub pe_int (pe_op (kMulN (K := K) rfl) pe_int (c_l_pick.call hr (pa_cons (pv 0) (pa_cons pe_int pa_nil))))) pa_nil)) (by rfl))
      (pss_cons (ps_if (pt_cmpR (kEq (K := K) rfl hu64) (pv 1) pe_int (nomark _)) (pss_one (ps_ret (pe_op (kMulN (K := K) rfl) (pv 2) (c_l_great.call hr (pa_cons (pv 0) (pa_cons pe_int pa_nil)))))) pss_nil)
      (pss_one (ps_ret (pe_ifExp (pt_cmpR op_lt (pv 1) pe_int (nomark _)) pe_int (pe_op (kMulN (K := K) rfl) (pv 2) (c_l_pick.call hr (pa_cons (pv 0) (pa_cons pe_int pa_nil))))))))), ?_⟩
  show SW (Fsrc a l) [.raw (.ref a), .non, .non] _ _
  repeat' walk_at "dl"
  all_goals rename_i r h0 h1 q g0 g1
  · exact ge_mul (n := 8) (m := 8) (sm (x := 2) (by decide)) sm
  refine ite2 (fun hc => ?_) (fun hc => ?_)
  · repeat' walk_at "dl"
    · rename_i n n0 n1
      exact ge_mul (n := 8) sm n1
    · rename_i n n0 n1
      exact hR _ ((sgn_bit g0 g1 n1).mono (by decide))
  · repeat' walk_at "dl"
    refine ew_if ?_
    repeat' walk_at "dl"
    refine ite2 (fun hc => ?_) (fun hc => ?_)
    · repeat' walk_at "dl"
      exact hR _ (Bit.zero _)
    · repeat' walk_at "dl"
      · exact ge_mul (n := 8) (m := 8) sm sm
      · exact hR _ ((sgn_bit g0 g1 (sm (by omega))).mono (by decide))
theorem ok_l_fraction {f : Addr} {fd : FuncData} (F : Fun K "_law_fraction" "_law_fraction" st_l_fraction f fd) (T : Tx mg) (c_l_pick : Has P w K mg base "_law_pick" 1 ["source", "many"] (spG mPick)) (c_l_of : Has P w K mg base "_law_of" 2 ["source", "some"] (spG mOf)) (c_l_least : Has P w K mg base "_law_least" 1 ["a", "b"] (spG mLeast)) (c_l_great : Has P w K mg base "_law_great" 2 ["source", "figures"] (spG mGreat))  : FnOk P w K mg base CX0 3 f fd ["source"] (spG mFrac) := by
  have nd := sc_l_fraction.nd
  refine fn_dl F sc_l_fraction (fun B es R ⟨p, l, _, e, _⟩ => by rw [e]; rfl) fun cdv A outer s H E hr B es R hm => ?_
  have hu := hu_of hr
  have hu64 := hr.units
  obtain ⟨a, l, rfl, rfl, hR⟩ := hm
  refine ⟨_, (pss_cons (ps_if (pt_cmpR op_gt (c_l_pick.call hr (pa_cons (pv 0) (pa_cons pe_int pa_nil))) pe_int (nomark _)) (pss_one (ps_ret (c_l_least.call hr (pa_cons (pe_op op_sub (c_l_pick.call hr (pa_cons (pv 0) (pa_cons pe_int pa_nil))) pe_int) (pa_cons (c_l_of.call hr (pa_cons (pv 0) (pa_cons (pe_lst (pa_cons pe_int (pa_cons pe_int (pa_cons pe_int (pa_cons pe_int (pa_cons pe_int (pa_cons pe_int pa_nil))))))) pa_nil))) pa_nil))))) pss_nil)
      (pss_one (ps_ret (c_l_least.call hr (pa_cons (pe_op op_sub (c_l_great.call hr (pa_cons (pv 0) (pa_cons pe_int pa_nil))) (c_l_great.call hr (pa_cons (pv 0) (pa_cons pe_int pa_nil)))) (pa_cons (pe_op (kAdd (K := K) rfl) pe_int (c_l_great.call hr (pa_cons (pv 0) (pa_cons pe_int pa_nil)))) pa_nil)))))), ?_⟩
  show SW (Fsrc a l) [.raw (.ref a)] _ _
  repeat' walk_at "dl"
  refine ite2 (fun hc => ?_) (fun hc => ?_)
  · repeat' walk_at "dl"
    rename_i r h0 h1 r2 g0 g1
    intro d hd
    obtain ⟨q, rfl, q0, q1⟩ : ∃ q : Int, d = .int q ∧ 1 ≤ q ∧ q ≤ 12 := by
      simp only [List.mem_cons, List.not_mem_nil, or_false] at hd
      rcases hd with e | e | e | e | e | e <;> exact ⟨_, e, by decide, by decide⟩
    repeat' walk_at "dl"
    exact least_at (by omega) ((sm (x := q)).mono (by decide)) (hR _ (lst_fq (n := 80) (by omega) ((sm (x := r2 - 12)).mono (by decide)) ((sm (x := q)).mono (by decide))) (lst_nf (by omega)))
  · repeat' walk_at "dl"
    rename_i r h0 h1 n1 p1 b1 n2 p2 b2 n3 p3 b3
    exact least_at (by omega) ((one_bit p3 b3).mono (by decide)) (hR _ (lst_fq (n := 80) (by omega) ((Bit.sub b1 b2).mono (by decide)) ((one_bit p3 b3).mono (by decide))) (lst_nf (by omega)))
theorem ok_l_row_of {f : Addr} {fd : FuncData} (F : Fun K "_law_row_of" "_law_row_of" st_l_row_of f fd) (T : Tx mg) (c_l_divisor : Has P w K mg base "_law_divisor" 1 ["numbers"] (spG mLDiv)) (c_l_plain : Has P w K mg base "_law_plain" 2 ["row"] (spG mPlain))  : FnOk P w K mg base CX0 3 f fd ["members", "bound"] (spG mRowOnes) := by
  have nd := sc_l_row_of.nd
  refine fn_dl F sc_l_row_of (fun B es R ⟨a, b, c, e, _⟩ => by rw [e]; rfl) fun cdv A outer s H E hr B es R hm => ?_
  have hu := hu_of hr
  have hu64 := hr.units
  obtain ⟨t, a, y, rfl, hl, ha, hy, hR⟩ := hm
  have hz : ∀ x, x ∈ onesF a ++ [y] → Fq 1900 x ∧ x.2 ∣ y.2 := fun x hx => ones_mem ha hy hx
  have hk : ∀ i, 0 < lcmL ((onesF a ++ [y]).take i) ∧ Bit 1900 (lcmL ((onesF a ++ [y]).take i)) := fun i => lcm_bit (fun x hx => ⟨(hz x (List.mem_of_mem_take hx)).1.pos, (hz x (List.mem_of_mem_take hx)).2⟩) hy.pos hy.b2
  have hyp := hy.pos
  have h0l : (onesF a).length = a.length := by simp [onesF]
  cases t with
  | true =>
    refine ⟨_, (pss_cons (ps_set (i := 2) nd rfl (by first | exact Or.inl rfl | exact Or.inr rfl) pe_int)
      (pss_cons (ps_for PassesOwn.never rfl (kList (K := K) rfl (pe_op (kAdd (K := K) rfl) (pe_callTy (kLst (K := K) rfl) (by rfl) T.list (by decide +kernel) (pa_cons (pv 0) pa_nil)) (pe_lst (pa_cons (pv 1) pa_nil)))) (kTg (K := K) (n := 2) rfl rfl (pgs_cons (pg_name (i := 3) nd rfl (by first | exact Or.inl rfl | exact Or.inr rfl)) (pgs_cons (pg_name (i := 4) nd rfl (by first | exact Or.inl rfl | exact Or.inr rfl)) pgs_nil))) (pss_one (ps_set (i := 2) nd rfl (by first | exact Or.inl rfl | exact Or.inr rfl) (pe_op (kMulN (K := K) rfl) (pv 2) (pe_op op_fdivG (pv 4) (c_l_divisor.call hr (pa_cons (pe_lst (pa_cons (pv 2) (pa_cons (pv 4) pa_nil))) pa_nil)))))))
      (pss_one (ps_ret (c_l_plain.call hr (pa_cons (pe_tup (pa_cons (pe_callTy (kTup (K := K) rfl) (by rfl) T.tuple (by decide +kernel) (pa_cons (pe_lc (own := [("p", 3), ("q", 4)]) rfl nd (kTuple (K := K) rfl (pv 0)) (blkOk_by (N := names_l_row_of) (sc := defScope st_l_row_of) (by decide +kernel)) (fun _ _ _ _ _ => (kTg (K := K) (n := 2) rfl rfl (pgs_cons (pg_name (i := 3) nd rfl (by first | exact Or.inl rfl | exact Or.inr rfl)) (pgs_cons (pg_name (i := 4) nd rfl (by first | exact Or.inl rfl | exact Or.inr rfl)) pgs_nil)))) (fun _ _ _ _ _ => pts_nil) (fun _ _ _ _ _ => (pe_op (kMulN (K := K) rfl) (pv 3) (pe_op op_fdivG (pv 2) (pv 4))))) pa_nil)) (pa_cons (pe_op (kMulN (K := K) rfl) (pe_ix (kIx (K := K) rfl) (pv 1) pe_int (fun _ _ => rfl)) (pe_op op_fdivG (pv 2) (pe_ix (kIx (K := K) rfl) (pv 1) pe_int (fun _ _ => rfl)))) pa_nil))) pa_nil)))))), ?_⟩
    show SW B [.dat (.tuple ((onesF a).map frD)), .dat (frD y), .non, .non, .non] _ _
    repeat' walk_at "dl"
    refine sw_for (it_list ?_)
    repeat' walk_at "dl"
    · simp [onesF]
      omega
    refine ⟨fun i e => ∃ z1 z2, e = [.dat (.tuple ((onesF a).map frD)), .dat (frD y), .dat (.int (lcmL ((onesF a ++ [y]).take i))), z1, z2], ⟨_, _, rfl⟩, ?_, ?_⟩
    · rintro i d e hd ⟨z1, z2, rfl⟩
      rw [show (onesF a).map frD ++ [frD y] = (onesF a ++ [y]).map frD by rw [List.map_append]; rfl] at hd
      obtain ⟨x, hxi, rfl⟩ := map_inv hd
      have hm := List.mem_of_getElem? hxi
      have fx := (hz x hm).1
      have h0 := fx.pos
      obtain ⟨hL0, hL⟩ := hk i
      have eg : gcdL [lcmL ((onesF a ++ [y]).take i), x.2] = gc (lcmL ((onesF a ++ [y]).take i)) x.2 := by
        show gc (gc 0 _) _ = _
        unfold gc
        simp
      have gp := gc_pos (a := lcmL ((onesF a ++ [y]).take i)) (b := x.2) (by omega)
      have gb : Bit 1900 (gcdL [lcmL ((onesF a ++ [y]).take i), x.2]) := by rw [eg]; exact gc_bit (by omega) fx.b2
      refine gw_tup ⟨_, rfl, rfl, gws_cons (gw_name (gws_cons (gw_name (gws_nil ?_))))⟩
      repeat' walk_at "dl"
      refine ldiv2_at ?_
      repeat' walk_at "dl"
      · exact gb.divOk (by omega) (by decide)
      · exact hL.mulOk (fdiv_bit' (by omega) (gcdL_dvd (List.mem_cons_of_mem _ (List.mem_singleton.mpr rfl))) fx.b2) (by decide)
      · rw [lcm_step (fun x hx => (hz x hx).1.pos) hxi]
        exact ⟨_, _, rfl⟩
    · rintro e ⟨z1, z2, rfl⟩
      have e1 : ((onesF a).map frD ++ [frD y]).length = (onesF a ++ [y]).length := by simp
      rw [e1, List.take_length, lcmL_ones hy.pos]
      repeat' walk_at "dl"
      refine ew_lcEq ((a.map (· * y.2)).map PyData.int) (it_tup (ew_var rfl (ex_t ?_)))
      refine ⟨by simp [onesF]; omega, by simp [onesF], fun i d u hd hu => ?_, ?_⟩
      · unfold onesF at hd
        rw [List.map_map] at hd
        obtain ⟨x, hxi, rfl⟩ := map_inv hd
        rw [List.map_map] at hu
        rw [map_get hxi hu]
        refine gc_tup ⟨_, rfl, rfl, gcs_cons (gc_name (by decide) (gcs_cons (gc_name (by decide) (gcs_nil ?_))))⟩
        repeat' walk_at "dl"
        · exact (show Bit 1 (1 : Int) by unfold Bit; decide).divOk (by decide) (by decide)
        · rw [fdiv_one]
          exact (ha x (List.mem_of_getElem? hxi)).mulOk hy.b2 (by decide)
        · rw [fdiv_one]
          rfl
      · repeat' walk_at "dl"
        · exact hy.b2.divOk (by omega) (by decide)
        · rw [fdiv_self hy.pos]
          exact hy.b1.mulOk (m := 1) (by unfold Bit; decide) (by decide)
        · rw [fdiv_self hy.pos, Int.mul_one]
          exact ⟨by rw [List.length_map]; omega, fun z hz => by
            obtain ⟨x, hx, rfl⟩ := List.mem_map.mp hz
            exact ((ha x hx).mul hy.b2).mono (by decide), hy.b1.mono (by decide)⟩
        · rw [fdiv_self hy.pos, Int.mul_one]
          exact hR
  | false =>
    refine ⟨_, (pss_cons (ps_set (i := 2) nd rfl (by first | exact Or.inl rfl | exact Or.inr rfl) pe_int)
      (pss_cons (ps_for PassesOwn.never rfl (kList (K := K) rfl (pe_op (kAdd (K := K) rfl) (pe_callTy (kLst (K := K) rfl) (by rfl) T.list (by decide +kernel) (pa_cons (pv 0) pa_nil)) (pe_lst (pa_cons (pv 1) pa_nil)))) (kTg (K := K) (n := 2) rfl rfl (pgs_cons (pg_name (i := 3) nd rfl (by first | exact Or.inl rfl | exact Or.inr rfl)) (pgs_cons (pg_name (i := 4) nd rfl (by first | exact Or.inl rfl | exact Or.inr rfl)) pgs_nil))) (pss_one (ps_set (i := 2) nd rfl (by first | exact Or.inl rfl | exact Or.inr rfl) (pe_op (kMulN (K := K) rfl) (pv 2) (pe_op op_fdivG (pv 4) (c_l_divisor.call hr (pa_cons (pe_lst (pa_cons (pv 2) (pa_cons (pv 4) pa_nil))) pa_nil)))))))
      (pss_one (ps_ret (c_l_plain.call hr (pa_cons (pe_tup (pa_cons (pe_callTy (kTup (K := K) rfl) (by rfl) T.tuple (by decide +kernel) (pa_cons (pe_lc (own := [("p", 3), ("q", 4)]) rfl nd (kList (K := K) rfl (pv 0)) (blkOk_by (N := names_l_row_of) (sc := defScope st_l_row_of) (by decide +kernel)) (fun _ _ _ _ _ => (kTg (K := K) (n := 2) rfl rfl (pgs_cons (pg_name (i := 3) nd rfl (by first | exact Or.inl rfl | exact Or.inr rfl)) (pgs_cons (pg_name (i := 4) nd rfl (by first | exact Or.inl rfl | exact Or.inr rfl)) pgs_nil)))) (fun _ _ _ _ _ => pts_nil) (fun _ _ _ _ _ => (pe_op (kMulN (K := K) rfl) (pv 3) (pe_op op_fdivG (pv 2) (pv 4))))) pa_nil)) (pa_cons (pe_op (kMulN (K := K) rfl) (pe_ix (kIx (K := K) rfl) (pv 1) pe_int (fun _ _ => rfl)) (pe_op op_fdivG (pv 2) (pe_ix (kIx (K := K) rfl) (pv 1) pe_int (fun _ _ => rfl)))) pa_nil))) pa_nil)))))), ?_⟩
    show SW B [.dat (.list ((onesF a).map frD)), .dat (frD y), .non, .non, .non] _ _
    repeat' walk_at "dl"
    refine sw_for (it_list ?_)
    repeat' walk_at "dl"
    · simp [onesF]
      omega
    refine ⟨fun i e => ∃ z1 z2, e = [.dat (.list ((onesF a).map frD)), .dat (frD y), .dat (.int (lcmL ((onesF a ++ [y]).take i))), z1, z2], ⟨_, _, rfl⟩, ?_, ?_⟩
    · rintro i d e hd ⟨z1, z2, rfl⟩
      rw [show (onesF a).map frD ++ [frD y] = (onesF a ++ [y]).map frD by rw [List.map_append]; rfl] at hd
      obtain ⟨x, hxi, rfl⟩ := map_inv hd
      have hm := List.mem_of_getElem? hxi
      have fx := (hz x hm).1
      have h0 := fx.pos
      obtain ⟨hL0, hL⟩ := hk i
      have eg : gcdL [lcmL ((onesF a ++ [y]).take i), x.2] = gc (lcmL ((onesF a ++ [y]).take i)) x.2 := by
        show gc (gc 0 _) _ = _
        unfold gc
        simp
      have gp := gc_pos (a := lcmL ((onesF a ++ [y]).take i)) (b := x.2) (by omega)
      have gb : Bit 1900 (gcdL [lcmL ((onesF a ++ [y]).take i), x.2]) := by rw [eg]; exact gc_bit (by omega) fx.b2
      refine gw_tup ⟨_, rfl, rfl, gws_cons (gw_name (gws_cons (gw_name (gws_nil ?_))))⟩
      repeat' walk_at "dl"
      refine ldiv2_at ?_
      repeat' walk_at "dl"
      · exact gb.divOk (by omega) (by decide)
      · exact hL.mulOk (fdiv_bit' (by omega) (gcdL_dvd (List.mem_cons_of_mem _ (List.mem_singleton.mpr rfl))) fx.b2) (by decide)
      · rw [lcm_step (fun x hx => (hz x hx).1.pos) hxi]
        exact ⟨_, _, rfl⟩
    · rintro e ⟨z1, z2, rfl⟩
      have e1 : ((onesF a).map frD ++ [frD y]).length = (onesF a ++ [y]).length := by simp
      rw [e1, List.take_length, lcmL_ones hy.pos]
      repeat' walk_at "dl"
      refine ew_lcEq ((a.map (· * y.2)).map PyData.int) (it_list (ew_var rfl (ex_l ?_)))
      refine ⟨by simp [onesF]; omega, by simp [onesF], fun i d u hd hu => ?_, ?_⟩
      · unfold onesF at hd
        rw [List.map_map] at hd
        obtain ⟨x, hxi, rfl⟩ := map_inv hd
        rw [List.map_map] at hu
        rw [map_get hxi hu]
        refine gc_tup ⟨_, rfl, rfl, gcs_cons (gc_name (by decide) (gcs_cons (gc_name (by decide) (gcs_nil ?_))))⟩
        repeat' walk_at "dl"
        · exact (show Bit 1 (1 : Int) by unfold Bit; decide).divOk (by decide) (by decide)
        · rw [fdiv_one]
          exact (ha x (List.mem_of_getElem? hxi)).mulOk hy.b2 (by decide)
        · rw [fdiv_one]
          rfl
      · repeat' walk_at "dl"
        · exact hy.b2.divOk (by omega) (by decide)
        · rw [fdiv_self hy.pos]
          exact hy.b1.mulOk (m := 1) (by unfold Bit; decide) (by decide)
        · rw [fdiv_self hy.pos, Int.mul_one]
          exact ⟨by rw [List.length_map]; omega, fun z hz => by
            obtain ⟨x, hx, rfl⟩ := List.mem_map.mp hz
            exact ((ha x hx).mul hy.b2).mono (by decide), hy.b1.mono (by decide)⟩
        · rw [fdiv_self hy.pos, Int.mul_one]
          exact hR
end
end E3
end
section
set_option Elab.async false
set_option linter.all false
set_option maxRecDepth 100000
set_option maxHeartbeats 0
namespace E3
open PySem L2 PySem.Spec PyProof.Rows Dl RZ Ev

theorem fq_one {n : Nat} {b : Int} (h : Bit n b) (l : 1 ≤ n := by decide) : Fq n (b, 1) := ⟨Int.one_pos, h, (show Bit 1 (1 : Int) by unfold Bit; decide).mono l⟩
def IsFn (d : PyData) : Prop := ∃ x : Int × Int, (Fq 80 x ∧ Nf x) ∧ d = frD x
theorem isFn_list : ∀ (ds : List PyData), (∀ d, d ∈ ds → IsFn d) → ∃ xs : List (Int × Int), ds = xs.map frD ∧ ∀ x, x ∈ xs → Fq 80 x ∧ Nf x
  | [], _ => ⟨[], rfl, fun _ h => by cases h⟩
  | d :: ds, h => by
    obtain ⟨xs, e, hx⟩ := isFn_list ds fun y hy => h y (List.mem_cons_of_mem _ hy)
    obtain ⟨x, fx, e2⟩ := h d List.mem_cons_self
    refine ⟨x :: xs, by rw [e, e2]; rfl, fun y hy => ?_⟩
    rcases List.mem_cons.mp hy with q | q
    · exact q ▸ fx
    · exact hx y q
def IsRw (k : Nat) (d : PyData) : Prop := ∃ r : List Int × Int, (r.1.length = k ∧ RowOk 170 r.1 r.2) ∧ d = rowD r.1 r.2
theorem isRw_list {k : Nat} : ∀ (ds : List PyData), (∀ d, d ∈ ds → IsRw k d) → ∃ rows : Rows, ds = rows.map (fun r => rowD r.1 r.2) ∧ ∀ r, r ∈ rows → r.1.length = k ∧ RowOk 170 r.1 r.2
  | [], _ => ⟨[], rfl, fun _ h => by cases h⟩
  | d :: ds, h => by
    obtain ⟨rows, e, hx⟩ := isRw_list ds fun y hy => h y (List.mem_cons_of_mem _ hy)
    obtain ⟨x, fx, e2⟩ := h d List.mem_cons_self
    refine ⟨x :: rows, by rw [e, e2]; rfl, fun y hy => ?_⟩
    rcases List.mem_cons.mp hy with q | q
    · exact q ▸ fx
    · exact hx y q
theorem plus_lst {b p q : Int} (h : 0 < q) : pl (b, 1) (lst p q) = lst (b * q + p) q := by
  obtain ⟨g, g0, e1, e2, b0⟩ := lst_mk (p := p) h
  generalize lst p q = z at *
  unfold pl
  show lst (b * z.2 + z.1 * 1) (1 * z.2) = _
  rw [e2, e1, show b * (z.2 * g) + z.1 * g = (b * z.2 + z.1 * 1) * g by grind, lst_scale b0 g0, Int.one_mul]
theorem shift_one {a : List Int} {b : Int} {p : List (Int × Int)} (h : ∀ x, x ∈ p → 0 < x.2) : plainR (a.map (· * (pl (b, 1) (reachR a p)).2)) (pl (b, 1) (reachR a p)).1 = plainR (a.map (· * lcmL p)) (b * lcmL p + dotI a (wholeN p)) := by
  have hL := lcmL_pos h
  have e : pl (b, 1) (reachR a p) = lst (b * lcmL p + dotI a (wholeN p)) (lcmL p) := plus_lst hL
  rw [e, ← rowOf_lst hL]
  obtain ⟨g, g0, e1, e2, b0⟩ := lst_mk (p := b * lcmL p + dotI a (wholeN p)) hL
  exact (rowOf_ones b0).symm
theorem scale_one {a : List Int} {b : Int} {t : Int × Int} (h : 0 < t.2) : plainR (a.map (· * (tm t (b, 1)).2)) (tm t (b, 1)).1 = plainR (a.map (· * t.2)) (b * t.1) := by
  have e : tm t (b, 1) = lst (b * t.1) t.2 := by
    unfold tm
    show lst (t.1 * b) (t.2 * 1) = _
    rw [Int.mul_one, Int.mul_comm]
  rw [e, ← rowOf_lst h]
  obtain ⟨g, g0, e1, e2, b0⟩ := lst_mk (p := b * t.1) h
  exact (rowOf_ones b0).symm
def mLShifted (_ : Fr) (es : List Ent) (R : PyData → Prop) : Prop := ∃ (n : Int) (rows : Rows) (p : List (Int × Int)), es = [.dat (roomD n rows), .dat (ptD p)] ∧ RmK 200 rows ∧ PtOk p ∧ (∀ r, r ∈ rows → r.1.length = p.length ∧ p.length ≤ 6) ∧ R (roomD n (shiftR rows p))
def mLScaled (_ : Fr) (es : List Ent) (R : PyData → Prop) : Prop := ∃ (n : Int) (rows : Rows) (t : Int × Int), es = [.dat (roomD n rows), .dat (frD t)] ∧ RmK 200 rows ∧ Fq 200 t ∧ (∀ r, r ∈ rows → r.1.length ≤ 6) ∧ R (roomD n (scaleR rows t))
def mMoved (_ : Fr) (es : List Ent) (R : PyData → Prop) : Prop := ∃ (mat : List (List (Int × Int))) (pt sh : List (Int × Int)), es = [.dat (matD mat), .dat (ptD pt), .dat (ptD sh)] ∧ MtOk mat ∧ VtOk 80 pt ∧ VtOk 2100 sh ∧ (∀ x, x ∈ sh → Nf x) ∧ R (ptD (imgF mat pt sh))
theorem ones_eq (a : List Int) : (onesF a).map frD = a.map fun x => frD (x, 1) := by unfold onesF; rw [List.map_map]; rfl
theorem unit_sc (n k : Nat) (x q : Int) : (unitL n k x).map (· * q) = unitL n k (x * q) := by
  unfold unitL
  rw [List.map_map]
  refine List.map_congr_left fun i _ => ?_
  show (if (i : Int) = k then x else 0) * q = _
  split
  · rfl
  · exact Int.zero_mul q
theorem mov_img {l pt : List (Int × Int)} {m : Int × Int} (h : ∀ x, x ∈ l → Fq 80 x) (g : ∀ x, x ∈ pt → Fq 80 x) (m0 : 0 < m.2) (mn : Nf m) : (List.zipWith tm l pt).foldl pl m = pl (totF (List.zipWith tm l pt)) m := (total_then (fun z hz => (tms_fq h g z hz).pos) (fun z hz => by
  obtain ⟨x, hx, y, hy, rfl⟩ := mem_zw hz
  exact lst_nf (Int.mul_pos (h x hx).pos (g y hy).pos)) m0 mn).symm
theorem fold_fq {n : Nat} {xs : List (Int × Int)} {m : Int × Int} (hm : Fq n m) (h : ∀ x, x ∈ xs → Fq 160 x) (hl : xs.length ≤ 6) : Fq (n + 966) (xs.foldl pl m) := (tot_fq xs m n hm h).mono (by omega)
local macro_rules | `(tactic| walk_at "dl") => `(tactic| first
  | ((with_reducible refine ew_varE ?_); refine ⟨_, rfl, ?_⟩)
  | ((with_reducible refine ew_int ?_))
  | ((with_reducible refine ew_str ?_))
  | ((with_reducible refine ew_bl ?_))
  | ((with_reducible refine ew_non ?_))
  | ((with_reducible refine ew_op ?_))
  | ((with_reducible refine ew_un ?_))
  | ((with_reducible refine ew_tup ?_))
  | ((with_reducible refine ew_lst ?_))
  | ((with_reducible refine ew_call ?_))
  | ((with_reducible refine ew_isi ?_))
  | ((with_reducible refine ew_cb ?_))
  | ((with_reducible refine ea_nil ?_))
  | ((with_reducible refine ea_rawE ?_); refine ⟨_, rfl, ?_⟩)
  | ((with_reducible refine ea_cons ?_))
  | ((with_reducible refine AllD.nil ?_))
  | ((with_reducible refine AllD.cons ?_))
  | ((with_reducible refine ew_isN ?_))
  | ((with_reducible refine ew_sl ?_))
  | ((with_reducible refine eo_none ?_))
  | ((with_reducible refine eo_some ?_))
  | ((with_reducible refine sd_list ?_); refine ⟨_, rfl, ?_⟩)
  | ((with_reducible refine sd_tup ?_); refine ⟨_, rfl, ?_⟩)
  | ((with_reducible refine tw_test ?_))
  | ((with_reducible refine tw_B ?_))
  | ((with_reducible refine tw_not ?_))
  | ((with_reducible refine tw_and ?_))
  | ((with_reducible refine tw_or ?_))
  | ((with_reducible refine ew_andV ?_))
  | ((with_reducible refine ew_orV ?_))
  | ((with_reducible refine ew_notV ?_))
  | ((with_reducible refine sw_seq ?_))
  | ((with_reducible refine sw_if ?_))
  | ((with_reducible refine sw_ret ?_))
  | ((with_reducible refine sw_set ?_))
  | ((with_reducible refine sw_par ?_))
  | ((with_reducible refine sw_nx ?_))
  | ((with_reducible refine od_ix ?_); refine ⟨_, _, _, rfl, rfl, rfl, ?_⟩)
  | ((with_reducible refine od_mulI ?_); refine ⟨_, _, rfl, rfl, ?_, ?_⟩)
  | ((with_reducible refine od_mulNI ?_); refine ⟨_, _, rfl, rfl, ?_, ?_⟩)
  | ((with_reducible refine od_addI ?_); refine ⟨_, _, rfl, rfl, ?_⟩)
  | ((with_reducible refine od_addL ?_); refine ⟨_, _, rfl, rfl, ?_, ?_⟩)
  | ((with_reducible refine od_addT ?_); refine ⟨_, _, rfl, rfl, ?_, ?_⟩)
  | ((with_reducible refine od_I0 ?_); refine ⟨_, _, rfl, rfl, ?_⟩)
  | ((with_reducible refine od_B0 ?_); refine ⟨_, _, rfl, rfl, ?_⟩)
  | ((with_reducible refine od_I ?_); refine ⟨_, _, rfl, rfl, ?_, ?_⟩)
  | ((with_reducible refine ud_I ?_); refine ⟨_, rfl, ?_⟩)
  | ((with_reducible refine od_eqI' ?_))
  | ((with_reducible refine od_neI' ?_))
  | ((with_reducible refine od_eqS' ?_))
  | ((with_reducible refine od_neS' ?_))
  | ((with_reducible refine cd_gcd ?_); refine ⟨_, _, rfl, ?_⟩)
  | ((with_reducible refine cd_lcm ?_); refine ⟨_, _, rfl, ?_, ?_, ?_⟩)
  | ((with_reducible refine qAbs ?_); refine ⟨_, rfl, ?_⟩)
  | ((with_reducible refine qInt ?_); refine ⟨_, rfl, ?_⟩)
  | ((with_reducible refine qLen ?_); refine ⟨_, _, rfl, rfl, ?_⟩)
  | ((with_reducible refine qTup ?_); refine ⟨_, _, rfl, rfl, ?_⟩)
  | ((with_reducible refine qLst ?_); refine ⟨_, _, rfl, rfl, ?_⟩)
  | ((with_reducible refine cd_anyT ?_); refine ⟨_, rfl, ?_⟩)
  | ((with_reducible refine cd_sum ?_); refine ⟨_, rfl, ?_⟩)
  | ((with_reducible refine qIntB ?_); refine ⟨_, rfl, ?_⟩)
  | ((with_reducible refine qMax2 ?_); refine ⟨_, _, rfl, ?_⟩)
  | ((with_reducible refine cd_all ?_); refine ⟨_, rfl, ?_⟩)
  | ((with_reducible refine ex_b ?_))
  | ((with_reducible refine ex_i ?_))
  | ((with_reducible refine ex_t ?_))
  | ((with_reducible refine ex_l ?_))
  | ((with_reducible refine ex_2 ?_))
  | ((with_reducible refine pick_atE ?_); refine ⟨by decide, fun r h0 h1 => ?_⟩)
  | ((with_reducible refine great_atE ?_); refine ⟨_, rfl, by decide, by decide, fun n h0 h1 => ?_⟩)
  | ((with_reducible refine ldiv_at ?_ ?_))
  | ((with_reducible refine plain_at ?_ ?_))
  | ((with_reducible refine od_mulNT ?_); refine ⟨_, _, rfl, rfl, ?_, ?_, ?_⟩)
  | ((with_reducible refine len_and ?_ ?_); exact Nat.le_of_ble_eq_true rfl)
  | ((with_reducible refine own_and ?_ ?_); rfl))
section
variable {P : Program} {w : World} {K : PySem.W.Frag} {mg : Str → Option Value} {base : Heap}
theorem ok_l_is_in {f : Addr} {fd : FuncData} (F : Fun K "_law_is_in" "_law_is_in" st_l_is_in f fd) (T : Tx mg) (c_l_plus : Has P w K mg base "_law_plus" 2 ["x", "y"] (spG (mBin pl))) (c_l_times : Has P w K mg base "_law_times" 2 ["x", "y"] (spG (mBin tm))) (c_l_reach : Has P w K mg base "_law_reach" 3 ["row", "point"] (spG (mLReach fun a _ xs => reachR a xs)))  : FnOk P w K mg base CX0 4 f fd ["room", "point"] (spG mIsIn) := by
  have nd := sc_l_is_in.nd
  refine fn_dl F sc_l_is_in (fun B es R ⟨a, b, c, e, _⟩ => by rw [e]; rfl) fun cdv A outer s H E hr B es R hm => ?_
  have hu := hu_of hr
  have hu64 := hr.units
  obtain ⟨n, rows, xs, rfl, h, hx, hlen, hR⟩ := hm
  refine ⟨_, (pss_cons (ps_setLc (i := 2) rfl nd rfl rfl (sw_true rfl rfl rfl (by decide +kernel)) (own := [("row", 3)]) (kTuple (K := K) rfl (pe_ix (kIx (K := K) rfl) (pv 0) pe_int (fun _ _ => rfl))) (blkOk_by (N := names_l_is_in) (sc := defScope st_l_is_in) (by decide +kernel)) (fun _ _ _ _ _ => (pg_name (i := 3) nd rfl (by first | exact Or.inl rfl | exact Or.inr rfl))) (fun _ _ _ _ _ => pts_nil) (fun _ _ _ _ _ => (c_l_plus.call hr (pa_cons (pe_tup (pa_cons (pe_ix (kIx (K := K) rfl) (pv 3) pe_int (fun _ _ => rfl)) (pa_cons pe_int pa_nil))) (pa_cons (c_l_times.call hr (pa_cons (pe_tup (pa_cons (pe_op op_sub pe_int pe_int) (pa_cons pe_int pa_nil))) (pa_cons (c_l_reach.call hr (pa_cons (pv 3) (pa_cons (pv 1) pa_nil))) pa_nil))) pa_nil)))))
      (pss_one (ps_ret (pe_cmpR (kEq (K := K) rfl hu64) (pe_lc (own := [("one", 4)]) rfl nd (kList (K := K) rfl (pv 2)) (blkOk_by (N := names_l_is_in) (sc := defScope st_l_is_in) (by decide +kernel)) (fun _ _ _ _ _ => (pg_name (i := 4) nd rfl (by first | exact Or.inl rfl | exact Or.inr rfl))) (fun _ _ _ _ _ => (pts_one (pt_cmpR op_lt (pe_ix (kIx (K := K) rfl) (pv 4) pe_int (fun _ _ => rfl)) pe_int (nomark _)))) (fun _ _ _ _ _ => (pv 4))) (pe_lst pa_nil) (nomark _))))), ?_⟩
  show SW B [.dat (roomD n rows), .dat (ptD xs), .non, .non, .non] _ _
  have hl := h.len
  repeat' walk_at "dl"
  refine ew_lcEq (rows.map fun r => frD (ovR r.1 r.2 xs)) (it_tup ?_)
  repeat' walk_at "dl"
  have hf : ∀ r, r ∈ rows → Fq 4000 (reachR r.1 xs) ∧ Fq 3810 (tm (0 - 1, 1) (reachR r.1 xs)) := fun r hr => by
    have f := reach_fq ((h.row r hr).mono (by decide)) hx
    exact ⟨f.mono (by decide), (tm_fq (n := 1) (x := (0 - 1, 1)) ⟨Int.one_pos, by unfold Bit; decide, by unfold Bit; decide⟩ f).mono (by decide)⟩
  refine ⟨by simp; omega, by simp, fun i d u hd hu => ?_, ?_⟩
  · obtain ⟨r, hr', rfl⟩ := map_inv hd
    have hm := List.mem_of_getElem? hr'
    have ho := h.row r hm
    rw [map_get hr' hu]
    refine gc_name (by decide) ?_
    repeat' walk_at "dl"
    refine lreach_at (ho.mono (by decide)) hx (hlen r hm) ?_
    repeat' walk_at "dl"
    refine ⟨(0 - 1, 1), reachR r.1 xs, rfl, ⟨Int.one_pos, Bit.mono (n := 1) (by unfold Bit; decide) (by decide), Bit.mono (n := 1) (by unfold Bit; decide) (by decide)⟩, (hf r hm).1, ?_⟩
    repeat' walk_at "dl"
    exact ⟨(r.2, 1), tm (0 - 1, 1) (reachR r.1 xs), rfl, fq_one (ho.bb.mono (by decide)), (hf r hm).2.mono (by decide), rfl⟩
  repeat' walk_at "dl"
  refine ew_lcF negF (it_list (ew_var rfl (ex_l ?_)))
  refine ⟨by simp; omega, fun i d hd => ?_, ?_⟩
  · obtain ⟨r, hr', rfl⟩ := map_inv hd
    refine gc_name (by decide) ?_
    repeat' walk_at "dl"
    refine ⟨?_, fun u hu => ?_⟩
    · unfold negF
      dsimp only
      by_cases q : (ovR r.1 r.2 xs).1 < 0
      · rw [if_pos q, decide_eq_true q]; rfl
      · rw [if_neg q, decide_eq_false q]; rfl
    · repeat' walk_at "dl"
      unfold negF at hu
      dsimp only at hu
      split at hu
      · cases hu; rfl
      · cases hu
  have hs : Sh 4 16000000 (.list ((rows.map fun r => frD (ovR r.1 r.2 xs)).filterMap negF)) := (Sh.list (k := 2) (m := 27000) fun d hd => by
    obtain ⟨e, he, h2⟩ := List.mem_filterMap.mp hd
    obtain ⟨r, hr, rfl⟩ := List.mem_map.mp he
    unfold negF at h2
    dsimp only at h2
    split at h2
    · cases h2
      have f : Fq 4020 (ovR r.1 r.2 xs) := (pl_fq (n := 200) (x := (r.2, 1)) (fq_one (h.row r hr).bb) (hf r hr).2).mono (by decide)
      exact f.sh (by decide)
    · cases h2).mono (by decide) (by
    have : ((rows.map fun r => frD (ovR r.1 r.2 xs)).filterMap negF).length ≤ 100 := Nat.le_trans (List.length_filterMap_le _ _) (by rw [List.length_map]; exact hl)
    omega)
  have hs0 := Sh.list (k := 1) (m := 13000) (xs := []) (fun x hx => by cases hx)
  repeat' walk_at "dl"
  refine odI_eq (isInB rows xs) (shp hs (cl_lst fun d hd => ?_) (by decide)) (shp hs0 (cl_lst fun x hx => by cases hx) (by decide)) ?_ ?_
  · obtain ⟨e, he, h2⟩ := List.mem_filterMap.mp hd
    obtain ⟨r, hr, rfl⟩ := List.mem_map.mp he
    unfold negF at h2
    dsimp only at h2
    split at h2
    · cases h2
      exact cl_tup fun x hx => by
        simp only [List.mem_cons, List.not_mem_nil, or_false] at hx
        rcases hx with rfl | rfl
        · exact cl_int _
        · exact cl_int _
    · cases h2
  · rw [← neg_is hx.pos, eqv_list]
    cases (rows.map fun r => frD (ovR r.1 r.2 xs)).filterMap negF with
    | nil => rw [eqvA_nil]; rfl
    | cons y ys => rw [eqvA_cn]; rfl
  · exact hR
theorem ok_l_point {f : Addr} {fd : FuncData} (F : Fun K "_law_point" "_law_point" st_l_point f fd) (T : Tx mg) (c_l_fraction : Has P w K mg base "_law_fraction" 3 ["source"] (spG mFrac))  : FnOk P w K mg base CX0 4 f fd ["source", "n"] (spG mPoint) := by
  have nd := sc_l_point.nd
  refine fn_dl F sc_l_point (fun B es R ⟨p, l, n, _, e, _⟩ => by rw [e]; rfl) fun cdv A outer s H E hr B es R hm => ?_
  have hu := hu_of hr
  have hu64 := hr.units
  obtain ⟨u, l, n, rfl, rfl, h0, h1, hR⟩ := hm
  refine ⟨_, (pss_one (ps_ret (pe_callTy (kTup (K := K) rfl) (by rfl) T.tuple (by decide +kernel) (pa_cons (pe_lc (own := [("k", 2)]) rfl nd (pi_range1 (by rfl) T.range (pa_cons (pv 1) pa_nil)) (blkOk_by (N := names_l_point) (sc := defScope st_l_point) (by decide +kernel)) (fun _ _ _ _ _ => (pg_name (i := 2) nd rfl (by first | exact Or.inl rfl | exact Or.inr rfl))) (fun _ _ _ _ _ => pts_nil) (fun _ _ _ _ _ => (c_l_fraction.call hr (pa_cons (pv 0) pa_nil)))) pa_nil)))), ?_⟩
  show SW (Fsrc u l) [.raw (.ref u), .dat (.int n), .non] _ _
  repeat' walk_at "dl"
  refine ew_lcAll IsFn (it_range1 ?_)
  repeat' walk_at "dl"
  refine ⟨n, rfl, by omega, by omega, by simp [rangeD]; omega, fun d hd => ?_, fun acc hal hA => ?_⟩
  · refine gc_name (by decide) ?_
    repeat' walk_at "dl"
    exact frac_at fun x hx hn => ⟨x, ⟨hx, hn⟩, rfl⟩
  obtain ⟨xs, rfl, hxs⟩ := isFn_list acc hA
  repeat' walk_at "dl"
  exact hR xs ⟨by simpa [rangeD] using hal, hxs⟩
theorem ok_l_shifted {f : Addr} {fd : FuncData} (F : Fun K "_law_shifted" "_law_shifted" st_l_shifted f fd) (T : Tx mg) (c_l_plus : Has P w K mg base "_law_plus" 2 ["x", "y"] (spG (mBin pl))) (c_l_reach : Has P w K mg base "_law_reach" 3 ["row", "point"] (spG (mLReach fun a _ xs => reachR a xs))) (c_l_row_of : Has P w K mg base "_law_row_of" 3 ["members", "bound"] (spG mRowOnes))  : FnOk P w K mg base CX0 4 f fd ["room", "point"] (spG mLShifted) := by
  have nd := sc_l_shifted.nd
  refine fn_dl F sc_l_shifted (fun B es R ⟨a, b, c, e, _⟩ => by rw [e]; rfl) fun cdv A outer s H E hr B es R hm => ?_
  have hu := hu_of hr
  have hu64 := hr.units
  obtain ⟨n, rows, p, rfl, h, hx, hlen, hR⟩ := hm
  refine ⟨_, (pss_cons (ps_setLc (i := 2) rfl nd rfl rfl (sw_true rfl rfl rfl (by decide +kernel)) (own := [("a", 3), ("b", 4)]) (kTuple (K := K) rfl (pe_ix (kIx (K := K) rfl) (pv 0) pe_int (fun _ _ => rfl))) (blkOk_by (N := names_l_shifted) (sc := defScope st_l_shifted) (by decide +kernel)) (fun _ _ _ _ _ => (kTg (K := K) (n := 2) rfl rfl (pgs_cons (pg_name (i := 3) nd rfl (by first | exact Or.inl rfl | exact Or.inr rfl)) (pgs_cons (pg_name (i := 4) nd rfl (by first | exact Or.inl rfl | exact Or.inr rfl)) pgs_nil)))) (fun _ _ _ _ _ => pts_nil) (fun _ _ _ _ _ => (c_l_row_of.call hr (pa_cons (pe_lc (own := [("one", 5)]) rfl nd (kTuple (K := K) rfl (pv 3)) (blkOk_re (N := names_l_shifted) (sc := ⟨.function, [(".0", .local), ("a", .local), ("b", .local), ("_law_row_of", .globalImplicit), ("_law_plus", .globalImplicit), ("_law_reach", .globalImplicit), ("point", .free)], false, false, []⟩) (by decide +kernel)) (fun _ _ _ _ _ => (pg_name (i := 5) nd rfl (by first | exact Or.inl rfl | exact Or.inr rfl))) (fun _ _ _ _ _ => pts_nil) (fun _ _ _ _ _ => (pe_tup (pa_cons (pv 5) (pa_cons pe_int pa_nil))))) (pa_cons (c_l_plus.call hr (pa_cons (pe_tup (pa_cons (pv 4) (pa_cons pe_int pa_nil))) (pa_cons (c_l_reach.call hr (pa_cons (pe_tup (pa_cons (pv 3) (pa_cons (pv 4) pa_nil))) (pa_cons (pv 1) pa_nil))) pa_nil))) pa_nil)))))
      (pss_one (ps_ret (pe_tup (pa_cons (pe_ix (kIx (K := K) rfl) (pv 0) pe_int (fun _ _ => rfl)) (pa_cons (pe_callTy (kTup (K := K) rfl) (by rfl) T.tuple (by decide +kernel) (pa_cons (pv 2) pa_nil)) pa_nil)))))), ?_⟩
  show SW B [.dat (roomD n rows), .dat (ptD p), .non, .non, .non, .non] _ _
  have hl := h.len
  repeat' walk_at "dl"
  refine ew_lcEq ((shiftR rows p).map fun r => rowD r.1 r.2) (it_tup ?_)
  repeat' walk_at "dl"
  refine ⟨by simp; omega, by simp [shiftR], fun i d u hd hu => ?_, ?_⟩
  · obtain ⟨r, hr', rfl⟩ := map_inv hd
    have hm := List.mem_of_getElem? hr'
    have ho := h.row r hm
    have hl2 := hlen r hm
    unfold shiftR at hu
    rw [List.map_map] at hu
    rw [map_get hr' hu]
    refine gc_tup ⟨_, rfl, rfl, gcs_cons (gc_name (by decide) (gcs_cons (gc_name (by decide) (gcs_nil ?_))))⟩
    repeat' walk_at "dl"
    refine ew_lcEq ((onesF r.1).map frD) (it_tup (ew_var rfl (ex_t ?_)))
    refine ⟨by simp; omega, by simp [onesF], fun j d u hd hu => ?_, ?_⟩
    · obtain ⟨x, hx', rfl⟩ := map_inv hd
      rw [ones_eq] at hu
      rw [map_get hx' hu]
      refine gc_name (by decide) ?_
      repeat' walk_at "dl"
      rfl
    repeat' walk_at "dl"
    refine lreach_at (ho.mono (by decide)) hx hl2.1 ?_
    repeat' walk_at "dl"
    refine ⟨(r.2, 1), reachR r.1 p, rfl, fq_one (ho.bb.mono (by decide)), (reach_fq (ho.mono (by decide)) hx).mono (by decide), ?_⟩
    repeat' walk_at "dl"
    have hL := lcmL_pos hx.pos
    have bD : Bit 1808 (dotI r.1 (wholeN p)) := (dot_bit ho.ba hx.whole).mono (by have := ho.len; omega)
    have bB : Bit 1808 (r.2 * lcmL p) := (ho.bb.mul hx.lcm).mono (by decide)
    have e : pl (r.2, 1) (reachR r.1 p) = lst (r.2 * lcmL p + dotI r.1 (wholeN p)) (lcmL p) := plus_lst hL
    have f : Fq 1900 (pl (r.2, 1) (reachR r.1 p)) := by
      rw [e]
      exact lst_fq (by omega) ((Bit.add bB bD).mono (by decide)) (hx.lcm.mono (by decide))
    refine ⟨false, r.1, _, rfl, by omega, ho.ba, f, ?_⟩
    rw [shift_one hx.pos]
    rfl
  · repeat' walk_at "dl"
    exact hR
theorem ok_l_scaled {f : Addr} {fd : FuncData} (F : Fun K "_law_scaled" "_law_scaled" st_l_scaled f fd) (T : Tx mg) (c_l_times : Has P w K mg base "_law_times" 2 ["x", "y"] (spG (mBin tm))) (c_l_row_of : Has P w K mg base "_law_row_of" 3 ["members", "bound"] (spG mRowOnes))  : FnOk P w K mg base CX0 4 f fd ["room", "t"] (spG mLScaled) := by
  have nd := sc_l_scaled.nd
  refine fn_dl F sc_l_scaled (fun B es R ⟨a, b, c, e, _⟩ => by rw [e]; rfl) fun cdv A outer s H E hr B es R hm => ?_
  have hu := hu_of hr
  have hu64 := hr.units
  obtain ⟨n, rows, t, rfl, h, ht, hlen, hR⟩ := hm
  refine ⟨_, (pss_one (ps_ret (pe_tup (pa_cons (pe_ix (kIx (K := K) rfl) (pv 0) pe_int (fun _ _ => rfl)) (pa_cons (pe_callTy (kTup (K := K) rfl) (by rfl) T.tuple (by decide +kernel) (pa_cons (pe_lc (own := [("a", 2), ("b", 3)]) rfl nd (kTuple (K := K) rfl (pe_ix (kIx (K := K) rfl) (pv 0) pe_int (fun _ _ => rfl))) (blkOk_by (N := names_l_scaled) (sc := defScope st_l_scaled) (by decide +kernel)) (fun _ _ _ _ _ => (kTg (K := K) (n := 2) rfl rfl (pgs_cons (pg_name (i := 2) nd rfl (by first | exact Or.inl rfl | exact Or.inr rfl)) (pgs_cons (pg_name (i := 3) nd rfl (by first | exact Or.inl rfl | exact Or.inr rfl)) pgs_nil)))) (fun _ _ _ _ _ => pts_nil) (fun _ _ _ _ _ => (c_l_row_of.call hr (pa_cons (pe_lc (own := [("one", 4)]) rfl nd (kTuple (K := K) rfl (pv 2)) (blkOk_re (N := names_l_scaled) (sc := ⟨.function, [(".0", .local), ("a", .local), ("b", .local), ("_law_row_of", .globalImplicit), ("_law_times", .globalImplicit), ("t", .free)], false, false, []⟩) (by decide +kernel)) (fun _ _ _ _ _ => (pg_name (i := 4) nd rfl (by first | exact Or.inl rfl | exact Or.inr rfl))) (fun _ _ _ _ _ => pts_nil) (fun _ _ _ _ _ => (pe_tup (pa_cons (pv 4) (pa_cons pe_int pa_nil))))) (pa_cons (c_l_times.call hr (pa_cons (pv 1) (pa_cons (pe_tup (pa_cons (pv 3) (pa_cons pe_int pa_nil))) pa_nil))) pa_nil))))) pa_nil)) pa_nil))))), ?_⟩
  show SW B [.dat (roomD n rows), .dat (frD t), .non, .non, .non] _ _
  have hl := h.len
  repeat' walk_at "dl"
  refine ew_lcEq ((scaleR rows t).map fun r => rowD r.1 r.2) (it_tup ?_)
  repeat' walk_at "dl"
  refine ⟨by simp; omega, by simp [scaleR], fun i d u hd hu => ?_, ?_⟩
  · obtain ⟨r, hr', rfl⟩ := map_inv hd
    have hm := List.mem_of_getElem? hr'
    have ho := h.row r hm
    have hl2 := hlen r hm
    unfold scaleR at hu
    rw [List.map_map] at hu
    rw [map_get hr' hu]
    refine gc_tup ⟨_, rfl, rfl, gcs_cons (gc_name (by decide) (gcs_cons (gc_name (by decide) (gcs_nil ?_))))⟩
    repeat' walk_at "dl"
    refine ew_lcEq ((onesF r.1).map frD) (it_tup (ew_var rfl (ex_t ?_)))
    refine ⟨by simp; omega, by simp [onesF], fun j d u hd hu => ?_, ?_⟩
    · obtain ⟨x, hx', rfl⟩ := map_inv hd
      rw [ones_eq] at hu
      rw [map_get hx' hu]
      refine gc_name (by decide) ?_
      repeat' walk_at "dl"
      rfl
    repeat' walk_at "dl"
    refine ⟨t, (r.2, 1), rfl, ht.mono (by decide), fq_one (ho.bb.mono (by decide)), ?_⟩
    repeat' walk_at "dl"
    have f : Fq 1900 (tm t (r.2, 1)) := (tm_fq (m := 200) ht (fq_one ho.bb)).mono (by decide)
    refine ⟨false, r.1, _, rfl, hl2, ho.ba, f, ?_⟩
    rw [scale_one ht.pos]
    rfl
  · repeat' walk_at "dl"
    exact hR
theorem ok_l_placed {f : Addr} {fd : FuncData} (F : Fun K "_law_placed" "_law_placed" st_l_placed f fd) (T : Tx mg) (c_l_plain : Has P w K mg base "_law_plain" 2 ["row"] (spG mPlain))  : FnOk P w K mg base CX0 3 f fd ["room", "order"] (spG mPlaced) := by
  have nd := sc_l_placed.nd
  refine fn_dl F sc_l_placed (fun B es R ⟨a, b, c, e, _⟩ => by rw [e]; rfl) fun cdv A outer s H E hr B es R hm => ?_
  have hu := hu_of hr
  have hu64 := hr.units
  obtain ⟨n, rows, o, rfl, h, hol, hlt, hR⟩ := hm
  refine ⟨_, (pss_one (ps_ret (pe_tup (pa_cons (pe_ix (kIx (K := K) rfl) (pv 0) pe_int (fun _ _ => rfl)) (pa_cons (pe_callTy (kTup (K := K) rfl) (by rfl) T.tuple (by decide +kernel) (pa_cons (pe_lc (own := [("a", 2), ("b", 3)]) rfl nd (kTuple (K := K) rfl (pe_ix (kIx (K := K) rfl) (pv 0) pe_int (fun _ _ => rfl))) (blkOk_by (N := names_l_placed) (sc := defScope st_l_placed) (by decide +kernel)) (fun _ _ _ _ _ => (kTg (K := K) (n := 2) rfl rfl (pgs_cons (pg_name (i := 2) nd rfl (by first | exact Or.inl rfl | exact Or.inr rfl)) (pgs_cons (pg_name (i := 3) nd rfl (by first | exact Or.inl rfl | exact Or.inr rfl)) pgs_nil)))) (fun _ _ _ _ _ => pts_nil) (fun _ _ _ _ _ => (c_l_plain.call hr (pa_cons (pe_tup (pa_cons (pe_callTy (kTup (K := K) rfl) (by rfl) T.tuple (by decide +kernel) (pa_cons (pe_lc (own := [("k", 4)]) rfl nd (kTuple (K := K) rfl (pv 1)) (blkOk_re (N := names_l_placed) (sc := ⟨.function, [(".0", .local), ("a", .cell), ("b", .local), ("_law_plain", .globalImplicit), ("tuple", .globalImplicit), ("order", .free)], false, false, []⟩) (by decide +kernel)) (fun _ _ _ _ _ => (pg_name (i := 4) nd rfl (by first | exact Or.inl rfl | exact Or.inr rfl))) (fun _ _ _ _ _ => pts_nil) (fun _ _ _ _ _ => (pe_ix (kIx (K := K) rfl) (pv 2) (pv 4) (fun _ _ => rfl)))) pa_nil)) (pa_cons (pv 3) pa_nil))) pa_nil)))) pa_nil)) pa_nil))))), ?_⟩
  show SW B [.dat (roomD n rows), .dat (intsD (o.map fun (k : Nat) => (k : Int))), .non, .non, .non] _ _
  have hl := h.len
  repeat' walk_at "dl"
  refine ew_lcEq ((placeR rows o).map fun r => rowD r.1 r.2) (it_tup ?_)
  repeat' walk_at "dl"
  refine ⟨by simp; omega, by simp [placeR], fun i d u hd hu => ?_, ?_⟩
  · obtain ⟨r, hr', rfl⟩ := map_inv hd
    have hm := List.mem_of_getElem? hr'
    have ho := h.row r hm
    unfold placeR at hu
    rw [List.map_map] at hu
    rw [map_get hr' hu]
    refine gc_tup ⟨_, rfl, rfl, gcs_cons (gc_name (by decide) (gcs_cons (gc_name (by decide) (gcs_nil ?_))))⟩
    repeat' walk_at "dl"
    refine ew_lcEq ((o.map (r.1.getD · 0)).map PyData.int) (it_tup (ew_var rfl (ex_t ?_)))
    refine ⟨by simp; omega, by simp, fun j d u hd hu => ?_, ?_⟩
    · rw [List.map_map] at hd
      obtain ⟨k, hk, rfl⟩ := map_inv hd
      rw [List.map_map] at hu
      rw [map_get hk hu]
      refine gc_name (by decide) ?_
      repeat' walk_at "dl"
      refine od_ix ⟨_, _, _, rfl, rfl, at_map_int (hlt r hm k (List.mem_of_getElem? hk)), ?_⟩
      rfl
    · repeat' walk_at "dl"
      · refine ⟨by rw [List.length_map]; omega, fun y hy => ?_, ho.bb.mono (by decide)⟩
        obtain ⟨k, hk, rfl⟩ := List.mem_map.mp hy
        have hk2 := hlt r hm k hk
        have e : r.1[k]? = some r.1[k] := List.getElem?_eq_getElem hk2
        rw [getD_map e]
        exact (ho.ba _ (List.mem_of_getElem? e)).mono (by decide)
      · rfl
  · repeat' walk_at "dl"
    exact hR
theorem ok_l_room {f : Addr} {fd : FuncData} (F : Fun K "_law_room" "_law_room" st_l_room f fd) (T : Tx mg) (c_l_pick : Has P w K mg base "_law_pick" 1 ["source", "many"] (spG mPick)) (c_l_of : Has P w K mg base "_law_of" 2 ["source", "some"] (spG mOf)) (c_l_mixed : Has P w K mg base "_law_mixed" 2 ["source", "things"] (spG mMixed)) (c_l_number : Has P w K mg base "_law_number" 3 ["source"] (spG mNumber))  : FnOk P w K mg base CX0 4 f fd ["source", "n"] (spG mRoomD) := by
  have nd := sc_l_room.nd
  refine fn_dl F sc_l_room (fun B es R ⟨p, l, n, _, e, _⟩ => by rw [e]; rfl) fun cdv A outer s H E hr B es R hm => ?_
  have hu := hu_of hr
  have hu64 := hr.units
  obtain ⟨u, l, n, rfl, rfl, h0, h1, hR⟩ := hm
  refine ⟨_, (pss_cons (ps_set (i := 2) nd rfl (by first | exact Or.inl rfl | exact Or.inr rfl) (pe_lst pa_nil))
      (pss_cons (ps_for PassesOwn.never rfl (pi_range1 (by rfl) T.range (pa_cons (c_l_of.call hr (pa_cons (pv 0) (pa_cons (pe_lst (pa_cons pe_int (pa_cons pe_int (pa_cons pe_int (pa_cons pe_int (pa_cons pe_int (pa_cons pe_int pa_nil))))))) pa_nil))) pa_nil)) (pg_name (i := 3) nd rfl (by first | exact Or.inl rfl | exact Or.inr rfl)) (pss_cons (ps_par (i := 4) (j := 5) (by rfl) nd rfl rfl (by decide) rfl rfl (pa_cons (pe_callTy (kTup (K := K) rfl) (by rfl) T.tuple (by decide +kernel) (pa_cons (pe_lc (own := [("k", 6)]) rfl nd (pi_range1 (by rfl) T.range (pa_cons (pv 1) pa_nil)) (blkOk_by (N := names_l_room) (sc := defScope st_l_room) (by decide +kernel)) (fun _ _ _ _ _ => (pg_name (i := 6) nd rfl (by first | exact Or.inl rfl | exact Or.inr rfl))) (fun _ _ _ _ _ => pts_nil) (fun _ _ _ _ _ => (c_l_number.call hr (pa_cons (pv 0) pa_nil)))) pa_nil)) (pa_cons (c_l_number.call hr (pa_cons (pv 0) pa_nil)) pa_nil)) (by rfl))
      (pss_one (ps_expr (kBm (K := K) rfl PySem.F.plainAttrs_list PySem.F.slot_list_append PySem.F.type_list_append mt_append (pv 2) (pa_cons (pe_ifExp (pt_cmpR op_gt (c_l_pick.call hr (pa_cons (pv 0) (pa_cons pe_int pa_nil))) pe_int (nomark _)) (pe_tup (pa_cons (pv 4) (pa_cons (pe_op (kAdd (K := K) rfl) (pv 5) (c_l_of.call hr (pa_cons (pv 0) (pa_cons (pe_lst (pa_cons pe_int (pa_cons pe_int (pa_cons pe_int pa_nil)))) pa_nil)))) pa_nil))) (pe_tup (pa_cons (pe_op (kMulN (K := K) rfl) (pe_tup (pa_cons pe_int pa_nil)) (pv 1)) (pa_cons (pv 5) pa_nil)))) pa_nil))))))
      (pss_one (ps_ret (pe_tup (pa_cons (pv 1) (pa_cons (pe_callTy (kTup (K := K) rfl) (by rfl) T.tuple (by decide +kernel) (pa_cons (c_l_mixed.call hr (pa_cons (pv 0) (pa_cons (pe_op (kAdd (K := K) rfl) (pv 2) (pe_slice (kSl (K := K) rfl) (pv 2) po_none (po_some (c_l_pick.call hr (pa_cons (pv 0) (pa_cons pe_int pa_nil)))))) pa_nil))) pa_nil)) pa_nil))))))), ?_⟩
  show SW (Fsrc u l) [.raw (.ref u), .dat (.int n), .non, .non, .non, .non, .non] _ _
  refine sw_seq (sw_new (ea_nil (AllD.nil ⟨by decide, fun o => ?_⟩)))
  show SW (Fsrc u l) [.raw (.ref u), .dat (.int n), .own o [], .non, .non, .non, .non] _ _
  refine sw_seq (sw_for (it_range1 ?_))
  repeat' walk_at "dl"
  refine of_at (by simp) (by simp) fun d hd => ?_
  obtain ⟨k, rfl, k0, k1⟩ : ∃ k : Int, d = .int k ∧ 0 ≤ k ∧ k ≤ 10 := by
    simp only [List.mem_cons, List.not_mem_nil, or_false] at hd
    rcases hd with e | e | e | e | e | e <;> exact ⟨_, e, by decide, by decide⟩
  clear hd
  repeat' walk_at "dl"
  refine ⟨k, rfl, by omega, by omega, ?_⟩
  have hk : (rangeD 0 k.toNat).length ≤ 10 := by simp [rangeD]; omega
  generalize rangeD 0 k.toNat = ks at *
  refine ⟨fun i e => ∃ (rows : Rows) (z3 z4 z5 z6 : Ent), e = [.raw (.ref u), .dat (.int n), .own o (rows.map fun r => rowD r.1 r.2), z3, z4, z5, z6] ∧ rows.length = i ∧ ∀ r, r ∈ rows → r.1.length = n.toNat ∧ RowOk 170 r.1 r.2, ⟨[], _, _, _, _, rfl, rfl, fun r h => by cases h⟩, ?_, ?_⟩
  · rintro i d e hd ⟨rows, z3, z4, z5, z6, rfl, hl, hr0⟩
    have hi : i < ks.length := (List.getElem?_eq_some_iff.mp hd).1
    refine gw_name ?_
    repeat' walk_at "dl"
    refine ew_lcAll (IsI 160) (it_range1 ?_)
    repeat' walk_at "dl"
    refine ⟨n, rfl, by omega, by omega, by simp [rangeD]; omega, fun d hd => ?_, fun acc hal hA => ?_⟩
    · refine gc_name (by decide) ?_
      repeat' walk_at "dl"
      exact number_at fun n hn => ⟨n, hn, rfl⟩
    obtain ⟨a, rfl, ha⟩ := isI_list acc hA
    have hal : a.length = n.toNat := by simpa [rangeD] using hal
    repeat' walk_at "dl"
    refine number_at fun b hb => ?_
    repeat' walk_at "dl"
    refine sw_append rfl (by rw [List.length_map]; omega) (ew_if ?_)
    repeat' walk_at "dl"
    refine ite2 (fun _ => ?_) (fun _ => ?_)
    · repeat' walk_at "dl"
      refine of_at (by simp) (by simp) fun d hd => ?_
      obtain ⟨c, rfl, c0, c1⟩ : ∃ c : Int, d = .int c ∧ 0 ≤ c ∧ c ≤ 9 := by
        simp only [List.mem_cons, List.not_mem_nil, or_false] at hd
        rcases hd with e | e | e <;> exact ⟨_, e, by decide, by decide⟩
      repeat' walk_at "dl"
      refine ⟨rows ++ [(a, b + c)], .dat d, .dat (intsD a), .dat (.int b), z6, ?_, by rw [List.length_append, hl]; rfl, fun r hr => ?_⟩
      · rw [List.map_append]
        rfl
      · rcases List.mem_append.mp hr with q | q
        · exact hr0 r q
        · rw [List.mem_singleton.mp q]
          exact ⟨hal, by show a.length ≤ 7; omega, fun x hx => (ha x hx).mono (by decide), (Bit.add hb ((sm (x := c)).mono (by decide))).mono (by decide)⟩
    · repeat' walk_at "dl"
      · exact h0
      · omega
      repeat' walk_at "dl"
      rw [rep_ints]
      refine ⟨rows ++ [(List.replicate n.toNat 0, b)], .dat d, .dat (intsD a), .dat (.int b), z6, ?_, by rw [List.length_append, hl]; rfl, fun r hr => ?_⟩
      · rw [List.map_append]
        rfl
      · rcases List.mem_append.mp hr with q | q
        · exact hr0 r q
        · rw [List.mem_singleton.mp q]
          exact ⟨List.length_replicate, rep_ok (by omega) (hb.mono (by decide))⟩
  · rintro e ⟨rows0, z3, z4, z5, z6, rfl, hl, hr0⟩
    refine sw_thaw 2 rfl ?_
    show SW (Fsrc u l) [.raw (.ref u), .dat (.int n), .dat (.list (rows0.map fun r => rowD r.1 r.2)), z3, z4, z5, z6] _ _
    repeat' walk_at "dl"
    all_goals rename_i kk kk0 kk1
    all_goals have cl := cut_len (xs := rows0.map fun r => rowD r.1 r.2) kk0 kk1
    · simp
      omega
    refine mixed_at (by simp at cl ⊢; omega) fun es' hp => ?_
    have hlen := hp.length_eq
    rw [List.length_append, List.length_map] at hlen
    obtain ⟨rows, rfl, hr⟩ := isRw_list (k := n.toNat) es' fun d hd => by
      have mk : ∀ d, d ∈ rows0.map (fun r => rowD r.1 r.2) → IsRw n.toNat d := fun d hd => by
        obtain ⟨r, hr', rfl⟩ := List.mem_map.mp hd
        exact ⟨r, hr0 r hr', rfl⟩
      rcases List.mem_append.mp (hp.mem_iff.mp hd) with q | q
      · exact mk d q
      · exact mk d (cut_mem q)
    rw [List.length_map] at hlen
    repeat' walk_at "dl"
    exact hR rows ⟨by omega, hr⟩
theorem ok_l_boxed {f : Addr} {fd : FuncData} (F : Fun K "_law_boxed" "_law_boxed" st_l_boxed f fd) (T : Tx mg) (c_l_row_of : Has P w K mg base "_law_row_of" 3 ["members", "bound"] (spG mRowOnes))  : FnOk P w K mg base CX0 4 f fd ["low", "high"] (spG mBoxed) := by
  have nd := sc_l_boxed.nd
  refine fn_dl F sc_l_boxed (fun B es R ⟨a, b, e, _⟩ => by rw [e]; rfl) fun cdv A outer s H E hr B es R hm => ?_
  have hu := hu_of hr
  have hu64 := hr.units
  obtain ⟨low, high, rfl, he, hl, h1, h2, hR⟩ := hm
  refine ⟨_, (pss_cons (ps_par (i := 2) (j := 3) (by rfl) nd rfl rfl (by decide) rfl rfl (pa_cons (pe_lst pa_nil) (pa_cons (pe_callB (kLen (K := K) rfl) (by rfl) T.len (by decide +kernel) (pa_cons (pv 0) pa_nil)) pa_nil)) (by rfl))
      (pss_cons (ps_for PassesOwn.never rfl (pi_range1 (by rfl) T.range (pa_cons (pv 3) pa_nil)) (pg_name (i := 4) nd rfl (by first | exact Or.inl rfl | exact Or.inr rfl)) (pss_cons (ps_set (i := 5) nd rfl (by first | exact Or.inl rfl | exact Or.inr rfl) (pe_callTy (kTup (K := K) rfl) (by rfl) T.tuple (by decide +kernel) (pa_cons (pe_lc (own := [("i", 7)]) rfl nd (pi_range1 (by rfl) T.range (pa_cons (pv 3) pa_nil)) (blkOk_by (N := names_l_boxed) (sc := defScope st_l_boxed) (by decide +kernel)) (fun _ _ _ _ _ => (pg_name (i := 7) nd rfl (by first | exact Or.inl rfl | exact Or.inr rfl))) (fun _ _ _ _ _ => pts_nil) (fun _ _ _ _ _ => (pe_tup (pa_cons (pe_callTy kInt (by rfl) T.int (by decide +kernel) (pa_cons (pe_cmpR (kEq (K := K) rfl hu64) (pv 7) (pv 4) (nomark _)) pa_nil)) (pa_cons pe_int pa_nil))))) pa_nil)))
      (pss_cons (ps_set (i := 6) nd rfl (by first | exact Or.inl rfl | exact Or.inr rfl) (pe_callTy (kTup (K := K) rfl) (by rfl) T.tuple (by decide +kernel) (pa_cons (pe_lc (own := [("i", 7)]) rfl nd (pi_range1 (by rfl) T.range (pa_cons (pv 3) pa_nil)) (blkOk_by (N := names_l_boxed) (sc := defScope st_l_boxed) (by decide +kernel)) (fun _ _ _ _ _ => (pg_name (i := 7) nd rfl (by first | exact Or.inl rfl | exact Or.inr rfl))) (fun _ _ _ _ _ => pts_nil) (fun _ _ _ _ _ => (pe_tup (pa_cons (pe_op op_sub pe_int (pe_callTy kInt (by rfl) T.int (by decide +kernel) (pa_cons (pe_cmpR (kEq (K := K) rfl hu64) (pv 7) (pv 4) (nomark _)) pa_nil))) (pa_cons pe_int pa_nil))))) pa_nil)))
      (pss_one (ps_set (i := 2) nd rfl (by first | exact Or.inl rfl | exact Or.inr rfl) (pe_op (kAdd (K := K) rfl) (pv 2) (pe_lst (pa_cons (c_l_row_of.call hr (pa_cons (pv 5) (pa_cons (pe_ix (kIx (K := K) rfl) (pv 1) (pv 4) (fun _ _ => rfl)) pa_nil))) (pa_cons (c_l_row_of.call hr (pa_cons (pv 6) (pa_cons (pe_tup (pa_cons (pe_op op_sub pe_int (pe_ix (kIx (K := K) rfl) (pe_ix (kIx (K := K) rfl) (pv 0) (pv 4) (fun _ _ => rfl)) pe_int (fun _ _ => rfl))) (pa_cons (pe_ix (kIx (K := K) rfl) (pe_ix (kIx (K := K) rfl) (pv 0) (pv 4) (fun _ _ => rfl)) pe_int (fun _ _ => rfl)) pa_nil))) pa_nil))) pa_nil)))))))))
      (pss_one (ps_ret (pe_tup (pa_cons (pv 3) (pa_cons (pe_callTy (kTup (K := K) rfl) (by rfl) T.tuple (by decide +kernel) (pa_cons (pv 2) pa_nil)) pa_nil))))))), ?_⟩
  show SW B [.dat (ptD low), .dat (ptD high), .non, .non, .non, .non, .non, .non] _ _
  repeat' walk_at "dl"
  rw [List.length_map]
  refine sw_seq (sw_for (it_range1 ?_))
  repeat' walk_at "dl"
  refine ⟨_, rfl, by omega, by omega, ?_⟩
  refine ⟨fun i e => ∃ z4 z5 z6 z7, e = [.dat (ptD low), .dat (ptD high), .dat (.list ((boxF low high i).map fun r => rowD r.1 r.2)), .dat (.int low.length), z4, z5, z6, z7], ⟨_, _, _, _, rfl⟩, ?_, ?_⟩
  · rintro i d e hd ⟨z4, z5, z6, z7, rfl⟩
    obtain ⟨hi, rfl⟩ := rangeD_inv hd
    rw [Int.toNat_natCast] at hi
    have ex : low[i]? = some low[i] := List.getElem?_eq_getElem hi
    have ey : high[i]? = some (high[i]'(by omega)) := List.getElem?_eq_getElem _
    have fx := h1.fq _ (List.mem_of_getElem? ex)
    have fy := h2.fq _ (List.mem_of_getElem? ey)
    have gx := getD_map (d := (0, 1)) ex
    have gy := getD_map (d := (0, 1)) ey
    have eb : boxF low high (i + 1) = boxF low high i ++ boxAt low high i := by unfold boxF; rw [List.range_succ, List.map_append, List.flatten_append]; simp
    have lb : (boxF low high i).length ≤ 2 * i := by
      unfold boxF
      rw [List.length_flatten, List.map_map]
      have : ∀ n, ((List.range n).map (List.length ∘ boxAt low high)).sum = 2 * n := fun n => by
        induction n with
        | zero => rfl
        | succ n ih => rw [List.range_succ, List.map_append, List.sum_append, ih]; show 2 * n + 2 = _; omega
      rw [this]
      exact Nat.le_refl _
    unfold boxAt at eb
    rw [gx, gy] at eb
    generalize low[i] = x at *
    generalize high[i]'(by omega) = y at *
    rw [Int.zero_add]
    refine gw_name ?_
    repeat' walk_at "dl"
    refine ew_lcEq ((onesF (unitL low.length i 1)).map frD) (it_range1 ?_)
    repeat' walk_at "dl"
    have hc : ∀ (v : Int) (j : Nat) (u : PyData), ((onesF (unitL low.length i v)).map frD)[j]? = some u → u = frD (if (j : Int) = i then v else 0, 1) := fun v j u hu => by
      unfold onesF unitL at hu
      rw [List.map_map, List.map_map] at hu
      have hj : j < low.length := by have := (List.getElem?_eq_some_iff.mp hu).1; simpa using this
      rw [map_get (List.getElem?_range hj) hu]
      rfl
    have hb : ∀ v : Int, v.natAbs ≤ 1 → ∀ z, z ∈ unitL low.length i v → Bit 200 z := fun v hv z hz => by
      unfold unitL at hz
      obtain ⟨j, _, rfl⟩ := List.mem_map.mp hz
      split
      · exact Bit.mono (n := 8) (sm (by omega)) (by decide)
      · exact Bit.zero _
    have hul : ∀ v : Int, (unitL low.length i v).length = low.length := fun v => by unfold unitL; simp
    refine ⟨_, rfl, by omega, by omega, by simp [rangeD]; omega, by simp [rangeD, onesF, unitL], fun j d u hd hu => ?_, ?_⟩
    · obtain ⟨hj, rfl⟩ := rangeD_inv hd
      rw [hc 1 j u hu]
      refine gc_name (by decide) ?_
      repeat' walk_at "dl"
      rw [Int.zero_add]
      by_cases q : (j : Int) = i
      · rw [if_pos q, decide_eq_true q]; rfl
      · rw [if_neg q, decide_eq_false q]; rfl
    repeat' walk_at "dl"
    refine ew_lcEq ((onesF (unitL low.length i (-1))).map frD) (it_range1 ?_)
    repeat' walk_at "dl"
    refine ⟨_, rfl, by omega, by omega, by simp [rangeD]; omega, by simp [rangeD, onesF, unitL], fun j d u hd hu => ?_, ?_⟩
    · obtain ⟨hj, rfl⟩ := rangeD_inv hd
      rw [hc (-1) j u hu]
      refine gc_name (by decide) ?_
      repeat' walk_at "dl"
      rw [Int.zero_add]
      by_cases q : (j : Int) = i
      · rw [if_pos q, decide_eq_true q]; rfl
      · rw [if_neg q, decide_eq_false q]; rfl
    repeat' walk_at "dl"
    refine od_ix ⟨_, _, _, rfl, rfl, atI_nat (map_some ey), ?_⟩
    repeat' walk_at "dl"
    refine ⟨true, _, y, rfl, by rw [hul]; exact hl, hb 1 (by decide), fy.mono (by decide), ?_⟩
    repeat' walk_at "dl"
    refine od_ix ⟨_, _, _, rfl, rfl, atI_nat (map_some ex), ?_⟩
    repeat' walk_at "dl"
    refine od_ix ⟨_, _, _, rfl, rfl, atI_nat (map_some ex), ?_⟩
    repeat' walk_at "dl"
    refine ⟨true, _, (0 - x.1, x.2), rfl, by rw [hul]; exact hl, hb (-1) (by decide), ⟨fx.pos, by rw [Int.zero_sub]; exact fx.b1.neg.mono (by decide), fx.b2.mono (by decide)⟩, ?_⟩
    rw [unit_sc, unit_sc]
    repeat' walk_at "dl"
    · show (List.map _ _).length + 2 ≤ 100000
      rw [List.length_map]
      omega
    · rw [Int.one_mul, show (-1 : Int) * ((0 - x.1, x.2) : Int × Int).2 = -x.2 from (by show -1 * x.2 = _; omega), show ((0 - x.1, x.2) : Int × Int).1 = -x.1 from Int.zero_sub _]
      refine ⟨.dat (.int i), .dat (.tuple ((onesF (unitL low.length i 1)).map frD)), .dat (.tuple ((onesF (unitL low.length i (-1))).map frD)), z7, ?_⟩
      rw [eb, List.map_append]
      rfl
  · rintro e ⟨z4, z5, z6, z7, rfl⟩
    have e1 : (rangeD 0 (low.length : Int).toNat).length = low.length := by simp [rangeD]
    rw [e1]
    refine sw_nx ?_
    repeat' walk_at "dl"
    exact hR
theorem ok_l_moved {f : Addr} {fd : FuncData} (F : Fun K "_law_moved" "_law_moved" st_l_moved f fd) (T : Tx mg) (c_l_plus : Has P w K mg base "_law_plus" 2 ["x", "y"] (spG (mBin pl))) (c_l_times : Has P w K mg base "_law_times" 2 ["x", "y"] (spG (mBin tm)))  : FnOk P w K mg base CX0 3 f fd ["matrix", "point", "shift"] (spG mMoved) := by
  have nd := sc_l_moved.nd
  refine fn_dl F sc_l_moved (fun B es R ⟨a, b, c, e, _⟩ => by rw [e]; rfl) fun cdv A outer s H E hr B es R hm => ?_
  have hu := hu_of hr
  have hu64 := hr.units
  obtain ⟨mat, pt, sh, rfl, h1, h2, h3, hn, hR⟩ := hm
  refine ⟨_, (pss_cons (ps_set (i := 3) nd rfl (by first | exact Or.inl rfl | exact Or.inr rfl) (pe_lst pa_nil))
      (pss_cons (ps_for PassesOwn.never rfl (kZipM (K := K) rfl (by rfl) T.zip (pa_cons (pv 0) (pa_cons (pv 2) pa_nil))) (kTg (K := K) (n := 2) rfl rfl (pgs_cons (pg_name (i := 4) nd rfl (by first | exact Or.inl rfl | exact Or.inr rfl)) (pgs_cons (pg_name (i := 5) nd rfl (by first | exact Or.inl rfl | exact Or.inr rfl)) pgs_nil))) (pss_cons (ps_for PassesOwn.never rfl (kZipM (K := K) rfl (by rfl) T.zip (pa_cons (pv 4) (pa_cons (pv 1) pa_nil))) (kTg (K := K) (n := 2) rfl rfl (pgs_cons (pg_name (i := 6) nd rfl (by first | exact Or.inl rfl | exact Or.inr rfl)) (pgs_cons (pg_name (i := 7) nd rfl (by first | exact Or.inl rfl | exact Or.inr rfl)) pgs_nil))) (pss_one (ps_set (i := 5) nd rfl (by first | exact Or.inl rfl | exact Or.inr rfl) (c_l_plus.call hr (pa_cons (pv 5) (pa_cons (c_l_times.call hr (pa_cons (pv 6) (pa_cons (pv 7) pa_nil))) pa_nil))))))
      (pss_one (ps_expr (kBm (K := K) rfl PySem.F.plainAttrs_list PySem.F.slot_list_append PySem.F.type_list_append mt_append (pv 3) (pa_cons (pv 5) pa_nil))))))
      (pss_one (ps_ret (pe_callTy (kTup (K := K) rfl) (by rfl) T.tuple (by decide +kernel) (pa_cons (pv 3) pa_nil)))))), ?_⟩
  show SW B [.dat (matD mat), .dat (ptD pt), .dat (ptD sh), .non, .non, .non, .non, .non] _ _
  have l1 := h1.len
  have l2 := h2.len
  have l3 := h3.len
  refine sw_seq (sw_new (ea_nil (AllD.nil ⟨by decide, fun a => ?_⟩)))
  show SW B [.dat (matD mat), .dat (ptD pt), .dat (ptD sh), .own a [], .non, .non, .non, .non] _ _
  refine sw_seq (sw_for (it_zipM ?_))
  repeat' walk_at "dl"
  refine ⟨_, _, _, _, rfl, rfl, rfl, ?_⟩
  refine ⟨fun i e => ∃ z1 z2 z3 z4, e = [.dat (matD mat), .dat (ptD pt), .dat (ptD sh), .own a (((imgF mat pt sh).take i).map frD), z1, z2, z3, z4], ⟨_, _, _, _, rfl⟩, ?_, ?_⟩
  · rintro i d e hd ⟨z1, z2, z3, z4, rfl⟩
    obtain ⟨d1, d2, hd1, hd2, rfl⟩ := zipD_inv hd
    obtain ⟨l, hl, rfl⟩ := map_inv hd1
    obtain ⟨m, hm, rfl⟩ := map_inv hd2
    have hi : i < mat.length := (List.getElem?_eq_some_iff.mp hl).1
    have q := h1.fq l (List.mem_of_getElem? hl)
    have mm := List.mem_of_getElem? hm
    have fm := h3.fq m mm
    have q1 := q.1
    refine gw_tup ⟨_, rfl, rfl, gws_cons (gw_name (gws_cons (gw_name (gws_nil ?_))))⟩
    show SW B [.dat (matD mat), .dat (ptD pt), .dat (ptD sh), .own a (((imgF mat pt sh).take i).map frD), .dat (ptD l), .dat (frD m), z3, z4] _ _
    refine sw_seq (sw_for (it_zipM ?_))
    repeat' walk_at "dl"
    refine ⟨_, _, _, _, rfl, rfl, rfl, ?_⟩
    refine ⟨fun j e => ∃ z3 z4, e = [.dat (matD mat), .dat (ptD pt), .dat (ptD sh), .own a (((imgF mat pt sh).take i).map frD), .dat (ptD l), .dat (frD (((List.zipWith tm l pt).take j).foldl pl m)), z3, z4], ⟨_, _, rfl⟩, ?_, ?_⟩
    · rintro j d e hd ⟨z3, z4, rfl⟩
      obtain ⟨d1, d2, hd1, hd2, rfl⟩ := zipD_inv hd
      obtain ⟨x, hx, rfl⟩ := map_inv hd1
      obtain ⟨y, hy, rfl⟩ := map_inv hd2
      have fx := q.2 x (List.mem_of_getElem? hx)
      have fy := h2.fq y (List.mem_of_getElem? hy)
      refine gw_tup ⟨_, rfl, rfl, gws_cons (gw_name (gws_cons (gw_name (gws_nil ?_))))⟩
      repeat' walk_at "dl"
      refine ⟨x, y, rfl, fx.mono (by decide), fy.mono (by decide), ?_⟩
      repeat' walk_at "dl"
      refine ⟨_, tm x y, rfl, (fold_fq (n := 2100) fm (fun z hz => tms_fq q.2 h2.fq z (List.mem_of_mem_take hz)) ?_).mono (by decide), (tm_fq fx fy).mono (by decide), ?_⟩
      · have := tms_len (pt := pt) q1
        rw [List.length_take]
        omega
      refine ⟨.dat (frD x), .dat (frD y), ?_⟩
      rw [take_snoc (zw_get (f := tm) hx hy), List.foldl_append]
      rfl
    · rintro e ⟨z3, z4, rfl⟩
      have e1 : (List.zipWith tm l pt).take (zipD (l.map frD) (pt.map frD)).length = List.zipWith tm l pt := List.take_of_length_le (by simp [zipD])
      rw [e1, mov_img q.2 h2.fq fm.pos (hn m mm)]
      refine sw_append rfl (by rw [List.length_map, List.length_take]; omega) ?_
      repeat' walk_at "dl"
      have e2 : (imgF mat pt sh)[i]? = some (pl (totF (List.zipWith tm l pt)) m) := zw_get hl hm
      refine ⟨.dat (ptD l), .dat (frD (pl (totF (List.zipWith tm l pt)) m)), z3, z4, ?_⟩
      rw [← take_at (f := frD) e2]
      rfl
  · rintro e ⟨z1, z2, z3, z4, rfl⟩
    refine sw_thaw 3 rfl ?_
    show SW B [.dat (matD mat), .dat (ptD pt), .dat (ptD sh), .dat (.list (((imgF mat pt sh).take (zipD (mat.map ptD) (sh.map frD)).length).map frD)), z1, z2, z3, z4] _ _
    have e1 : (imgF mat pt sh).take (zipD (mat.map ptD) (sh.map frD)).length = imgF mat pt sh := List.take_of_length_le (by unfold imgF; simp [zipD])
    rw [e1]
    repeat' walk_at "dl"
    exact hR
end
end E3
end
section
set_option Elab.async false
set_option linter.all false
set_option maxRecDepth 100000
set_option maxHeartbeats 0
namespace E3
open PySem L2 PySem.Spec PyProof.Rows Dl RZ Ev

theorem RmD.rmk {n : Nat} {rows : Rows} (h : RmD n rows) : RmK 200 rows := ⟨by have := h.len; omega, fun r hr => (h.row r hr).2.mono (by decide)⟩
theorem PtD.ok {n : Nat} {xs : List (Int × Int)} (h : PtD n xs) (l : n ≤ 6) : PtOk xs := ⟨by have := h.len; omega, fun x hx => (h.fq x hx).1.mono (by decide)⟩
theorem PtD.pos {n : Nat} {xs : List (Int × Int)} (h : PtD n xs) : ∀ x, x ∈ xs → 0 < x.2 := fun x hx => (h.fq x hx).1.pos
theorem isIn_all (rows : Rows) (xs : List (Int × Int)) : isInB rows xs = decide (∀ r, r ∈ rows → brokenB r.1 r.2 xs = false) := by
  unfold isInB brokenL
  rw [Bool.eq_iff_iff, List.isEmpty_iff, decide_eq_true_iff, List.filterMap_eq_nil_iff]
  constructor
  · intro z r hr
    obtain ⟨i, hi⟩ := List.getElem?_of_mem hr
    have := z i (List.mem_range.mpr (List.getElem?_eq_some_iff.mp hi).1)
    unfold brokenO at this
    rw [hi] at this
    cases q : brokenB r.1 r.2 xs with
    | false => rfl
    | true => simp [q] at this
  · intro z i hi
    unfold brokenO
    cases q : rows[i]? with
    | none => rfl
    | some r => simp [z r (List.mem_of_getElem? q)]
theorem isIn_map {rows : Rows} {f : List Int × Int → List Int × Int} {xs ys : List (Int × Int)} (h : ∀ r, r ∈ rows → brokenB (f r).1 (f r).2 ys = brokenB r.1 r.2 xs) : isInB (rows.map f) ys = isInB rows xs := by
  rw [isIn_all, isIn_all, decide_eq_decide]
  constructor
  · intro z r hr
    rw [← h r hr]
    exact z _ (List.mem_map.mpr ⟨r, hr, rfl⟩)
  · intro z s hs
    obtain ⟨r, hr, rfl⟩ := List.mem_map.mp hs
    rw [h r hr]
    exact z r hr
theorem in_shift {rows : Rows} {x p : List (Int × Int)} (hx : ∀ z, z ∈ x → 0 < z.2) (hp : ∀ z, z ∈ p → 0 < z.2) (hl : x.length = p.length) : isInB (shiftR rows p) (plF x p) = isInB rows x := isIn_map fun r _ => by
  rw [broken_plain fun z hz => (plF_pos hx hp z hz).1]
  exact broken_shift hx hp hl
theorem in_scale {rows : Rows} {x : List (Int × Int)} {t : Int × Int} (hx : ∀ z, z ∈ x → 0 < z.2) (t1 : 0 < t.1) (t2 : 0 < t.2) : isInB (scaleR rows t) (x.map (tm t)) = isInB rows x := isIn_map fun r _ => by
  rw [broken_plain fun z hz => by
    obtain ⟨u, hu, rfl⟩ := List.mem_map.mp hz
    exact (lst_mk (Int.mul_pos t2 (hx u hu))).elim fun _ q => q.2.2.2]
  exact broken_scale hx t1 t2
theorem in_mirror {rows : Rows} {x : List (Int × Int)} (hx : ∀ z, z ∈ x → 0 < z.2) : isInB (mirrorR rows) (x.map fun z => (0 - z.1, z.2)) = isInB rows x := isIn_map fun r _ => by
  rw [broken_plain fun z hz => by
    obtain ⟨u, hu, rfl⟩ := List.mem_map.mp hz
    exact hx u hu]
  exact broken_mirror hx
theorem in_place {rows : Rows} {x : List (Int × Int)} {o : List Nat} (hx : ∀ z, z ∈ x → 0 < z.2) (hl : ∀ r, r ∈ rows → r.1.length = x.length) (ho : o.Perm (List.range x.length)) : isInB (placeR rows o) (o.map (x.getD · (0, 1))) = isInB rows x := isIn_map fun r hr => by
  rw [broken_plain fun z hz => by
    obtain ⟨k, hk, rfl⟩ := List.mem_map.mp hz
    have hk2 := List.mem_range.mp (ho.mem_iff.mp hk)
    rw [List.getD_eq_getElem?_getD, List.getElem?_eq_getElem hk2]
    exact hx _ (List.getElem_mem _)]
  exact broken_place hx (hl r hr) (by rw [hl r hr]; exact ho)
def natD (d : PyData) : Nat := match d with
  | .int i => i.toNat
  | _ => 0
theorem order_of {es : List PyData} {n : Nat} (h : es.Perm (rangeD 0 n)) : ∃ o : List Nat, es = (o.map fun (k : Nat) => (k : Int)).map PyData.int ∧ o.Perm (List.range n) := by
  refine ⟨es.map natD, ?_, ?_⟩
  · rw [List.map_map, List.map_map]
    conv => lhs; rw [← List.map_id es]
    refine List.map_congr_left fun d hd => ?_
    obtain ⟨i, hi⟩ := List.getElem?_of_mem (h.mem_iff.mp hd)
    obtain ⟨_, rfl⟩ := rangeD_inv hi
    show PyData.int (0 + (i : Int)) = PyData.int ((0 + (i : Int)).toNat : Nat)
    congr 1
    try omega
  · have := h.map natD
    have e : (rangeD 0 n).map natD = List.range n := by
      unfold rangeD
      rw [List.map_map]
      conv => rhs; rw [← List.map_id (List.range n)]
      refine List.map_congr_left fun i _ => ?_
      show (0 + (i : Int)).toNat = i
      omega
    rw [e] at this
    exact this
theorem shK_ints {n : Nat} {a : List Int} (h : ∀ x, x ∈ a → Bit n x) (l : n ≤ 12000) : ∀ x, x ∈ a.map PyData.int → Sh 1 (n + 2) x := fun x hx => by
  obtain ⟨i, hi, rfl⟩ := List.mem_map.mp hx
  refine ⟨?_, ?_, ?_⟩
  · unfold Shw
    exact (h i hi).log (by omega)
  · rw [PyData.depth]
    decide
  · rw [PyData.shown]
    have e := int_text_length_le (a := i) (k := n + 1) (Nat.succ_pos n) ((h i hi).log (Nat.lt_succ_self n))
    show (Str.ofString (toString i)).length ≤ _
    rw [PySem.ofString_length]
    omega
theorem shK_row {n : Nat} {a : List Int} {b : Int} (h : RowOk n a b) (l : n ≤ 1800) : Sh 3 25319 (rowD a b) := by
  have hl := h.len
  have e1 : Sh 2 12656 (intsD a) := (Sh.tuple (shK_ints h.ba (by omega))).mono (by decide) (by
    rw [List.length_map]
    have : a.length * (n + 2 + 2) ≤ 7 * 1804 := Nat.mul_le_mul hl (by omega)
    omega)
  have e2 : Sh 2 12656 (.int b) := (shK_ints (a := [b]) (fun x hx => by rw [List.mem_singleton.mp hx]; exact h.bb) (by omega) (.int b) (by simp)).mono (by decide) (by omega)
  refine (Sh.tuple (k := 2) (m := 12656) fun x hx => ?_).mono (by decide) (by simp)
  simp only [List.mem_cons, List.not_mem_nil, or_false] at hx
  rcases hx with rfl | rfl
  · exact e1
  · exact e2
theorem shK_room {n : Int} {rows : Rows} (hn : Bit 20 n) (hl : rows.length ≤ 24) (h : ∀ r, r ∈ rows → RowOk 1800 r.1 r.2) : Sh 5 1215421 (roomD n rows) := by
  have e1 : Sh 4 607707 (rowsD rows) := (Sh.tuple (k := 3) (m := 25319) fun x hx => by
    obtain ⟨r, hr, rfl⟩ := List.mem_map.mp hx
    exact shK_row (h r hr) (by decide)).mono (by decide) (by rw [List.length_map]; omega)
  refine (Sh.tuple (k := 4) (m := 607707) fun x hx => ?_).mono (by decide) (by simp)
  simp only [List.mem_cons, List.not_mem_nil, or_false] at hx
  rcases hx with rfl | rfl
  · exact (Sh.int (hn.mono (by decide))).mono (by decide) (by decide)
  · exact e1
theorem shift_ok {n : Nat} {rows : Rows} {p : List (Int × Int)} (h : RmD n rows) (hp : PtOk p) : ∀ r, r ∈ shiftR rows p → RowOk 1800 r.1 r.2 := fun r hr => by
  obtain ⟨s, hs, rfl⟩ := List.mem_map.mp hr
  have ho := (h.row s hs).2
  have hl := ho.len
  refine plain_ok ⟨by rw [List.length_map]; exact hl, fun x hx => ?_, ?_⟩ (by decide)
  · obtain ⟨z, hz, rfl⟩ := List.mem_map.mp hx
    exact ((ho.ba z hz).mul hp.lcm).mono (by decide)
  · have bD : Bit 1778 (dotI s.1 (wholeN p)) := (dot_bit ho.ba hp.whole).mono (by omega)
    exact (Bit.add ((ho.bb.mul hp.lcm).mono (m := 1778) (by decide)) bD).mono (by decide)
theorem scale_ok {n : Nat} {rows : Rows} {t : Int × Int} (h : RmD n rows) (ht : Fq 80 t) : ∀ r, r ∈ scaleR rows t → RowOk 1800 r.1 r.2 := fun r hr => by
  obtain ⟨s, hs, rfl⟩ := List.mem_map.mp hr
  have ho := (h.row s hs).2
  refine plain_ok ⟨by rw [List.length_map]; exact ho.len, fun x hx => ?_, (ho.bb.mul ht.b1).mono (by decide)⟩ (by decide)
  obtain ⟨z, hz, rfl⟩ := List.mem_map.mp hx
  exact ((ho.ba z hz).mul ht.b2).mono (by decide)
theorem mirror_ok {n : Nat} {rows : Rows} (h : RmD n rows) : ∀ r, r ∈ mirrorR rows → RowOk 1800 r.1 r.2 := fun r hr => by
  obtain ⟨s, hs, rfl⟩ := List.mem_map.mp hr
  have ho := (h.row s hs).2
  refine plain_ok ⟨by rw [List.length_map]; exact ho.len, fun x hx => ?_, ho.bb.mono (by decide)⟩ (by decide)
  obtain ⟨z, hz, rfl⟩ := List.mem_map.mp hx
  exact (ho.ba z hz).neg.mono (by decide)
theorem place_ok {n : Nat} {rows : Rows} {o : List Nat} (h : RmD n rows) (hl : o.length ≤ 6) (hk : ∀ k, k ∈ o → k < n) : ∀ r, r ∈ placeR rows o → RowOk 1800 r.1 r.2 := fun r hr => by
  obtain ⟨s, hs, rfl⟩ := List.mem_map.mp hr
  have ho := h.row s hs
  refine plain_ok ⟨by rw [List.length_map]; omega, fun x hx => ?_, ho.2.bb.mono (by decide)⟩ (by decide)
  obtain ⟨k, hk', rfl⟩ := List.mem_map.mp hx
  have hk2 : k < s.1.length := by rw [ho.1]; exact hk k hk'
  have e : s.1[k]? = some s.1[k] := List.getElem?_eq_getElem hk2
  rw [getD_map e]
  exact (ho.2.ba _ (List.mem_of_getElem? e)).mono (by decide)
def toldL (n : Int) (rows : Rows) (p : List (Int × Int)) (t : Int × Int) (o : List Nat) : List PyData := [roomD n (shiftR rows p), roomD n (scaleR rows t), roomD n (mirrorR rows), roomD n (placeR rows o), roomD n []]
theorem plF_ok {n : Nat} {x p : List (Int × Int)} (hx : PtD n x) (hp : PtD n p) (h : n ≤ 6) : PtOk (plF x p) := ⟨by unfold plF; rw [List.length_zipWith]; have := hx.len; omega, fun z hz => by
  obtain ⟨_, u, hu, v, hv, rfl⟩ := plF_pos hx.pos hp.pos z hz
  exact (pl_fq (hx.fq u hu).1 (hp.fq v hv).1).mono (by decide)⟩
theorem sh_bools {ds : List Bool} (h : ds.length ≤ 100) : Sh 2 1500202 (.list (ds.map PyData.bool)) := (Sh.list (k := 1) (m := 13000) fun x hx => by
  obtain ⟨b, _, rfl⟩ := List.mem_map.mp hx
  exact Sh.bool b).mono (by decide) (by rw [List.length_map]; omega)
local macro_rules | `(tactic| walk_at "dl") => `(tactic| first
  | ((with_reducible refine ew_varE ?_); refine ⟨_, rfl, ?_⟩)
  | ((with_reducible refine ew_int ?_))
  | ((with_reducible refine ew_str ?_))
  | ((with_reducible refine ew_bl ?_))
  | ((with_reducible refine ew_non ?_))
  | ((with_reducible refine ew_op ?_))
  | ((with_reducible refine ew_un ?_))
  | ((with_reducible refine ew_tup ?_))
  | ((with_reducible refine ew_lst ?_))
  | ((with_reducible refine ew_call ?_))
  | ((with_reducible refine ew_isi ?_))
  | ((with_reducible refine ew_cb ?_))
  | ((with_reducible refine ea_nil ?_))
  | ((with_reducible refine ea_rawE ?_); refine ⟨_, rfl, ?_⟩)
  | ((with_reducible refine ea_cons ?_))
  | ((with_reducible refine AllD.nil ?_))
  | ((with_reducible refine AllD.cons ?_))
  | ((with_reducible refine ew_isN ?_))
  | ((with_reducible refine ew_sl ?_))
  | ((with_reducible refine eo_none ?_))
  | ((with_reducible refine eo_some ?_))
  | ((with_reducible refine sd_list ?_); refine ⟨_, rfl, ?_⟩)
  | ((with_reducible refine sd_tup ?_); refine ⟨_, rfl, ?_⟩)
  | ((with_reducible refine tw_test ?_))
  | ((with_reducible refine tw_B ?_))
  | ((with_reducible refine tw_not ?_))
  | ((with_reducible refine tw_and ?_))
  | ((with_reducible refine tw_or ?_))
  | ((with_reducible refine ew_andV ?_))
  | ((with_reducible refine ew_orV ?_))
  | ((with_reducible refine ew_notV ?_))
  | ((with_reducible refine sw_seq ?_))
  | ((with_reducible refine sw_if ?_))
  | ((with_reducible refine sw_ret ?_))
  | ((with_reducible refine sw_set ?_))
  | ((with_reducible refine sw_par ?_))
  | ((with_reducible refine sw_nx ?_))
  | ((with_reducible refine od_ix ?_); refine ⟨_, _, _, rfl, rfl, rfl, ?_⟩)
  | ((with_reducible refine od_mulI ?_); refine ⟨_, _, rfl, rfl, ?_, ?_⟩)
  | ((with_reducible refine od_mulNI ?_); refine ⟨_, _, rfl, rfl, ?_, ?_⟩)
  | ((with_reducible refine od_addI ?_); refine ⟨_, _, rfl, rfl, ?_⟩)
  | ((with_reducible refine od_addL ?_); refine ⟨_, _, rfl, rfl, ?_, ?_⟩)
  | ((with_reducible refine od_addT ?_); refine ⟨_, _, rfl, rfl, ?_, ?_⟩)
  | ((with_reducible refine od_I0 ?_); refine ⟨_, _, rfl, rfl, ?_⟩)
  | ((with_reducible refine od_B0 ?_); refine ⟨_, _, rfl, rfl, ?_⟩)
  | ((with_reducible refine od_I ?_); refine ⟨_, _, rfl, rfl, ?_, ?_⟩)
  | ((with_reducible refine ud_I ?_); refine ⟨_, rfl, ?_⟩)
  | ((with_reducible refine od_eqI' ?_))
  | ((with_reducible refine od_neI' ?_))
  | ((with_reducible refine cd_gcd ?_); refine ⟨_, _, rfl, ?_⟩)
  | ((with_reducible refine cd_lcm ?_); refine ⟨_, _, rfl, ?_, ?_, ?_⟩)
  | ((with_reducible refine qAbs ?_); refine ⟨_, rfl, ?_⟩)
  | ((with_reducible refine qInt ?_); refine ⟨_, rfl, ?_⟩)
  | ((with_reducible refine qLen ?_); refine ⟨_, _, rfl, rfl, ?_⟩)
  | ((with_reducible refine qTup ?_); refine ⟨_, _, rfl, rfl, ?_⟩)
  | ((with_reducible refine qLst ?_); refine ⟨_, _, rfl, rfl, ?_⟩)
  | ((with_reducible refine cd_anyT ?_); refine ⟨_, rfl, ?_⟩)
  | ((with_reducible refine cd_sum ?_); refine ⟨_, rfl, ?_⟩)
  | ((with_reducible refine qIntB ?_); refine ⟨_, rfl, ?_⟩)
  | ((with_reducible refine qMax2 ?_); refine ⟨_, _, rfl, ?_⟩)
  | ((with_reducible refine cd_all ?_); refine ⟨_, rfl, ?_⟩)
  | ((with_reducible refine ex_b ?_))
  | ((with_reducible refine ex_i ?_))
  | ((with_reducible refine ex_t ?_))
  | ((with_reducible refine ex_l ?_))
  | ((with_reducible refine ex_2 ?_))
  | ((with_reducible refine pick_atE ?_); refine ⟨by decide, fun r h0 h1 => ?_⟩)
  | ((with_reducible refine od_mulNT ?_); refine ⟨_, _, rfl, rfl, ?_, ?_, ?_⟩)
  | ((with_reducible refine od_mulNL ?_); refine ⟨_, _, rfl, rfl, ?_, ?_, ?_⟩)
  | ((with_reducible refine len_and ?_ ?_); exact Nat.le_of_ble_eq_true rfl)
  | ((with_reducible refine own_and ?_ ?_); rfl))
section
variable {P : Program} {w : World} {K : PySem.W.Frag} {mg : Str → Option Value} {base : Heap}
theorem ok_l_made_right {f : Addr} {fd : FuncData} (F : Fun K "_law_made_right" "_law_made_right" st_l_made_right f fd) (T : Tx mg) (c_is_in : HasG P w K mg base "is_in" 3 ["room", "point"] (spG (mRoom fun rows xs => .bool (isInB rows xs)))) (c_shifted : HasG P w K mg base "shifted" 3 ["room", "point"] (spG mShifted)) (c_scaled : HasG P w K mg base "scaled" 3 ["room", "t"] (spG mScaled)) (c_mirrored : HasG P w K mg base "mirrored" 3 ["room"] (spG mMirrored)) (c_placed : HasG P w K mg base "placed" 3 ["room", "order"] (spG mPlaced)) (c_open_room : HasG P w K mg base "open_room" 1 ["n"] (spG mOpen)) (c_l_mixed : HasG P w K mg base "_law_mixed" 2 ["source", "things"] (spG mMixed)) (c_l_plus : HasG P w K mg base "_law_plus" 2 ["x", "y"] (spG (mBin pl))) (c_l_times : HasG P w K mg base "_law_times" 2 ["x", "y"] (spG (mBin tm))) (c_l_fraction : HasG P w K mg base "_law_fraction" 3 ["source"] (spG mFrac)) (c_l_plain : HasG P w K mg base "_law_plain" 2 ["row"] (spG mPlain)) (c_l_is_in : HasG P w K mg base "_law_is_in" 4 ["room", "point"] (spG mIsIn)) (c_l_room : HasG P w K mg base "_law_room" 4 ["source", "n"] (spG mRoomD)) (c_l_point : HasG P w K mg base "_law_point" 4 ["source", "n"] (spG mPoint)) (c_l_shifted : HasG P w K mg base "_law_shifted" 4 ["room", "point"] (spG mLShifted)) (c_l_scaled : HasG P w K mg base "_law_scaled" 4 ["room", "t"] (spG mLScaled)) (c_l_placed : HasG P w K mg base "_law_placed" 3 ["room", "order"] (spG mPlaced)) (ND : NoDig base) : FnG P w K mg base 5 f fd ["source", "n"] (spG mHalf) := by
  have nd := sc_l_made_right.nd
  refine fn_dlG F sc_l_made_right (fun B es R ⟨p, l, n, _, e, _⟩ => by rw [e]; rfl) fun cdv A outer s H E hr gd B es R hm => ?_
  have hu := hu_of hr
  have hu64 := hr.units
  obtain ⟨u, l, n, rfl, rfl, h0, h1, hR⟩ := hm
  refine ⟨_, (pss_cons (ps_asg (pe_tup (pa_cons (c_l_room.call hr gd (pa_cons (pv 0) (pa_cons (pv 1) pa_nil))) (pa_cons (c_l_point.call hr gd (pa_cons (pv 0) (pa_cons (pv 1) pa_nil))) (pa_cons (c_l_fraction.call hr gd (pa_cons (pv 0) pa_nil)) pa_nil)))) (kTg (K := K) (n := 3) rfl rfl (pgs_cons (pg_name (i := 2) nd rfl (by first | exact Or.inl rfl | exact Or.inr rfl)) (pgs_cons (pg_name (i := 3) nd rfl (by first | exact Or.inl rfl | exact Or.inr rfl)) (pgs_cons (pg_name (i := 4) nd rfl (by first | exact Or.inl rfl | exact Or.inr rfl)) pgs_nil)))))
      (pss_cons (ps_set (i := 4) nd rfl (by first | exact Or.inl rfl | exact Or.inr rfl) (pe_ifExp (pt_cmpR (kNe (K := K) rfl hu64) (pe_ix (kIx (K := K) rfl) (pv 4) pe_int (fun _ _ => rfl)) pe_int (nomark _)) (pe_tup (pa_cons (pe_callB kAbs (by rfl) T.abs (by decide +kernel) (pa_cons (pe_ix (kIx (K := K) rfl) (pv 4) pe_int (fun _ _ => rfl)) pa_nil)) (pa_cons (pe_ix (kIx (K := K) rfl) (pv 4) pe_int (fun _ _ => rfl)) pa_nil))) (pe_tup (pa_cons pe_int (pa_cons pe_int pa_nil)))))
      (pss_cons (ps_set (i := 5) nd rfl (by first | exact Or.inl rfl | exact Or.inr rfl) (pe_callTy (kTup (K := K) rfl) (by rfl) T.tuple (by decide +kernel) (pa_cons (c_l_mixed.call hr gd (pa_cons (pv 0) (pa_cons (pe_listRg rfl (by rfl) T.list (prg_1 (by rfl) T.range (pv 1))) pa_nil))) pa_nil)))
      (pss_cons (ps_set (i := 6) nd rfl (by first | exact Or.inl rfl | exact Or.inr rfl) (pe_callB (kReprA (K := K) rfl ND gd hu64) (by rfl) T.repr (by decide +kernel) (pa_cons (pe_lst (pa_cons (pv 2) (pa_cons (pv 3) (pa_cons (pv 5) pa_nil)))) pa_nil)))
      (pss_cons (ps_set (i := 7) nd rfl (by first | exact Or.inl rfl | exact Or.inr rfl) (pe_lst (pa_cons (c_shifted.call hr gd (pa_cons (pv 2) (pa_cons (pv 3) pa_nil))) (pa_cons (c_scaled.call hr gd (pa_cons (pv 2) (pa_cons (pv 4) pa_nil))) (pa_cons (c_mirrored.call hr gd (pa_cons (pv 2) pa_nil)) (pa_cons (c_placed.call hr gd (pa_cons (pv 2) (pa_cons (pv 5) pa_nil))) (pa_cons (c_open_room.call hr gd (pa_cons (pv 1) pa_nil)) pa_nil)))))))
      (pss_cons (ps_set (i := 8) nd rfl (by first | exact Or.inl rfl | exact Or.inr rfl) (pe_lst (pa_cons (c_l_shifted.call hr gd (pa_cons (pv 2) (pa_cons (pv 3) pa_nil))) (pa_cons (c_l_scaled.call hr gd (pa_cons (pv 2) (pa_cons (pv 4) pa_nil))) pa_nil))))
      (pss_cons (ps_expr (kBm (K := K) rfl PySem.F.plainAttrs_list PySem.F.slot_list_append PySem.F.type_list_append mt_append (pv 8) (pa_cons (pe_tup (pa_cons (pv 1) (pa_cons (pe_callTy (kTup (K := K) rfl) (by rfl) T.tuple (by decide +kernel) (pa_cons (pe_lc (own := [("a", 9), ("b", 10)]) rfl nd (kTuple (K := K) rfl (pe_ix (kIx (K := K) rfl) (pv 2) pe_int (fun _ _ => rfl))) (blkOk_by (N := names_l_made_right) (sc := defScope st_l_made_right) (by decide +kernel)) (fun _ _ _ _ _ => (kTg (K := K) (n := 2) rfl rfl (pgs_cons (pg_name (i := 9) nd rfl (by first | exact Or.inl rfl | exact Or.inr rfl)) (pgs_cons (pg_name (i := 10) nd rfl (by first | exact Or.inl rfl | exact Or.inr rfl)) pgs_nil)))) (fun _ _ _ _ _ => pts_nil) (fun _ _ _ _ _ => (c_l_plain.call hr gd (pa_cons (pe_tup (pa_cons (pe_callTy (kTup (K := K) rfl) (by rfl) T.tuple (by decide +kernel) (pa_cons (pe_lc (own := [("one", 11)]) rfl nd (kTuple (K := K) rfl (pv 9)) (blkOk_re (N := names_l_made_right) (sc := ⟨.function, [(".0", .local), ("a", .local), ("b", .local), ("_law_plain", .globalImplicit), ("tuple", .globalImplicit)], false, false, []⟩) (by decide +kernel)) (fun _ _ _ _ _ => (pg_name (i := 11) nd rfl (by first | exact Or.inl rfl | exact Or.inr rfl))) (fun _ _ _ _ _ => pts_nil) (fun _ _ _ _ _ => (pe_op op_sub pe_int (pv 11)))) pa_nil)) (pa_cons (pv 10) pa_nil))) pa_nil)))) pa_nil)) pa_nil))) pa_nil)))
      (pss_cons (ps_set (i := 8) nd rfl (by first | exact Or.inl rfl | exact Or.inr rfl) (pe_op (kAdd (K := K) rfl) (pv 8) (pe_lst (pa_cons (c_l_placed.call hr gd (pa_cons (pv 2) (pa_cons (pv 5) pa_nil))) (pa_cons (pe_tup (pa_cons (pv 1) (pa_cons (pe_tup pa_nil) pa_nil))) pa_nil)))))
      (pss_cons (ps_if (PW.pt (pw_or (pt_cmpR (kNe (K := K) rfl hu64) (pe_callB (kReprA (K := K) rfl ND gd hu64) (by rfl) T.repr (by decide +kernel) (pa_cons (pv 7) pa_nil)) (pe_callB (kReprA (K := K) rfl ND gd hu64) (by rfl) T.repr (by decide +kernel) (pa_cons (pv 8) pa_nil)) (nomark _)) (pw_or1 (pt_cmpR (kNe (K := K) rfl hu64) (pe_callB (kReprA (K := K) rfl ND gd hu64) (by rfl) T.repr (by decide +kernel) (pa_cons (pe_lst (pa_cons (pv 2) (pa_cons (pv 3) (pa_cons (pv 5) pa_nil)))) pa_nil)) (pv 6) (nomark _))))) (pss_one (ps_ret pe_bl)) pss_nil)
      (pss_cons (ps_for PassesOwn.never rfl (pi_range1 (by rfl) T.range (pa_cons pe_int pa_nil)) (pg_name (i := 12) nd rfl (by first | exact Or.inl rfl | exact Or.inr rfl)) (pss_cons (ps_set (i := 13) nd rfl (by first | exact Or.inl rfl | exact Or.inr rfl) (c_l_point.call hr gd (pa_cons (pv 0) (pa_cons (pv 1) pa_nil))))
      (pss_cons (ps_set (i := 8) nd rfl (by first | exact Or.inl rfl | exact Or.inr rfl) (c_l_is_in.call hr gd (pa_cons (pv 2) (pa_cons (pv 13) pa_nil))))
      (pss_cons (ps_set (i := 14) nd rfl (by first | exact Or.inl rfl | exact Or.inr rfl) (pe_callTy (kTup (K := K) rfl) (by rfl) T.tuple (by decide +kernel) (pa_cons (pe_lc (own := [("one", 11), ("other", 18)]) rfl nd (kZipM (K := K) rfl (by rfl) T.zip (pa_cons (pv 13) (pa_cons (pv 3) pa_nil))) (blkOk_by (N := names_l_made_right) (sc := defScope st_l_made_right) (by decide +kernel)) (fun _ _ _ _ _ => (kTg (K := K) (n := 2) rfl rfl (pgs_cons (pg_name (i := 11) nd rfl (by first | exact Or.inl rfl | exact Or.inr rfl)) (pgs_cons (pg_name (i := 18) nd rfl (by first | exact Or.inl rfl | exact Or.inr rfl)) pgs_nil)))) (fun _ _ _ _ _ => pts_nil) (fun _ _ _ _ _ => (c_l_plus.call hr gd (pa_cons (pv 11) (pa_cons (pv 18) pa_nil))))) pa_nil)))
      (pss_cons (ps_par (i := 16) (j := 17) (by rfl) nd rfl rfl (by decide) rfl rfl (pa_cons (pe_callTy (kTup (K := K) rfl) (by rfl) T.tuple (by decide +kernel) (pa_cons (pe_lc (own := [("one", 11)]) rfl nd (kTuple (K := K) rfl (pv 13)) (blkOk_by (N := names_l_made_right) (sc := defScope st_l_made_right) (by decide +kernel)) (fun _ _ _ _ _ => (pg_name (i := 11) nd rfl (by first | exact Or.inl rfl | exact Or.inr rfl))) (fun _ _ _ _ _ => pts_nil) (fun _ _ _ _ _ => (c_l_times.call hr gd (pa_cons (pv 4) (pa_cons (pv 11) pa_nil))))) pa_nil)) (pa_cons (pe_callTy (kTup (K := K) rfl) (by rfl) T.tuple (by decide +kernel) (pa_cons (pe_lc (own := [("one", 11)]) rfl nd (kTuple (K := K) rfl (pv 13)) (blkOk_by (N := names_l_made_right) (sc := defScope st_l_made_right) (by decide +kernel)) (fun _ _ _ _ _ => (pg_name (i := 11) nd rfl (by first | exact Or.inl rfl | exact Or.inr rfl))) (fun _ _ _ _ _ => pts_nil) (fun _ _ _ _ _ => (pe_tup (pa_cons (pe_op op_sub pe_int (pe_ix (kIx (K := K) rfl) (pv 11) pe_int (fun _ _ => rfl))) (pa_cons (pe_ix (kIx (K := K) rfl) (pv 11) pe_int (fun _ _ => rfl)) pa_nil))))) pa_nil)) pa_nil)) (by rfl))
      (pss_cons (ps_set (i := 15) nd rfl (by first | exact Or.inl rfl | exact Or.inr rfl) (pe_lst (pa_cons (c_is_in.call hr gd (pa_cons (pe_ix (kIx (K := K) rfl) (pv 7) pe_int (fun _ _ => rfl)) (pa_cons (pv 14) pa_nil))) (pa_cons (c_is_in.call hr gd (pa_cons (pe_ix (kIx (K := K) rfl) (pv 7) pe_int (fun _ _ => rfl)) (pa_cons (pv 16) pa_nil))) (pa_cons (c_is_in.call hr gd (pa_cons (pe_ix (kIx (K := K) rfl) (pv 7) pe_int (fun _ _ => rfl)) (pa_cons (pv 17) pa_nil))) pa_nil)))))
      (pss_cons (ps_expr (kBm (K := K) rfl PySem.F.plainAttrs_list PySem.F.slot_list_append PySem.F.type_list_append mt_append (pv 15) (pa_cons (c_is_in.call hr gd (pa_cons (pe_ix (kIx (K := K) rfl) (pv 7) pe_int (fun _ _ => rfl)) (pa_cons (pe_callTy (kTup (K := K) rfl) (by rfl) T.tuple (by decide +kernel) (pa_cons (pe_lc (own := [("k", 19)]) rfl nd (kTuple (K := K) rfl (pv 5)) (blkOk_by (N := names_l_made_right) (sc := defScope st_l_made_right) (by decide +kernel)) (fun _ _ _ _ _ => (pg_name (i := 19) nd rfl (by first | exact Or.inl rfl | exact Or.inr rfl))) (fun _ _ _ _ _ => pts_nil) (fun _ _ _ _ _ => (pe_ix (kIx (K := K) rfl) (pv 13) (pv 19) (fun _ _ => rfl)))) pa_nil)) pa_nil))) pa_nil)))
      (pss_one (ps_if (pt_cmpR (kNe (K := K) rfl hu64) (pe_callB (kReprA (K := K) rfl ND gd hu64) (by rfl) T.repr (by decide +kernel) (pa_cons (pe_op (kAdd (K := K) rfl) (pv 15) (pe_lst (pa_cons (c_is_in.call hr gd (pa_cons (pe_ix (kIx (K := K) rfl) (pv 7) pe_int (fun _ _ => rfl)) (pa_cons (pv 13) pa_nil))) (pa_cons (c_is_in.call hr gd (pa_cons (pv 2) (pa_cons (pv 13) pa_nil))) pa_nil)))) pa_nil)) (pe_callB (kReprA (K := K) rfl ND gd hu64) (by rfl) T.repr (by decide +kernel) (pa_cons (pe_op (kAdd (K := K) rfl) (pe_op (kMulN (K := K) rfl) (pe_lst (pa_cons (pv 8) pa_nil)) pe_int) (pe_lst (pa_cons pe_bl (pa_cons (pv 8) pa_nil)))) pa_nil)) (nomark _)) (pss_one (ps_ret pe_bl)) pss_nil)))))))))
      (pss_one (ps_ret pe_bl)))))))))))), ?_⟩
  show SW (Fsrc u l) [.raw (.ref u), .dat (.int n), .non, .non, .non, .non, .non, .non, .non, .non, .non, .non, .non, .non, .non, .non, .non, .non, .non, .non] _ _
  have hn6 : n.toNat ≤ 6 := by omega
  have hnb : Bit 20 n := by unfold Bit; omega
  refine sw_seq (sw_asg (ew_tup ?_))
  repeat' walk_at "dl"
  refine roomD_at h0 h1 fun rows hrm => ?_
  repeat' walk_at "dl"
  refine point_at h0 h1 fun p hp => ?_
  repeat' walk_at "dl"
  refine frac_at fun t0 ht0 _ => ?_
  repeat' walk_at "dl"
  refine gw_tup ⟨_, rfl, rfl, gws_cons (gw_name (gws_cons (gw_name (gws_cons (gw_name (gws_nil ?_))))))⟩
  refine sw_mid (fun e => ∃ t : Int × Int, (Fq 80 t ∧ 0 < t.1) ∧ e = [.raw (.ref u), .dat (.int n), .dat (roomD n rows), .dat (ptD p), .dat (frD t), .non, .non, .non, .non, .non, .non, .non, .non, .non, .non, .non, .non, .non, .non, .non]) ?_ ?_
  · refine sw_set (ew_if ?_)
    repeat' walk_at "dl"
    refine ite2 (fun hc => ?_) (fun hc => ?_)
    · have hz : t0.1 ≠ 0 := fun z => by rw [z] at hc; exact absurd hc (by decide)
      repeat' walk_at "dl"
      refine ⟨((t0.1.natAbs : Nat), t0.2), ⟨⟨ht0.pos, by have := ht0.b1; unfold Bit at *; simpa using this, ht0.b2⟩, by show (0 : Int) < (t0.1.natAbs : Nat); omega⟩, ?_⟩
      rw [abs_eq]
      rfl
    · repeat' walk_at "dl"
      exact ⟨(1, 3), ⟨⟨by decide, by unfold Bit; decide, by unfold Bit; decide⟩, by decide⟩, rfl⟩
  rintro e ⟨t, ⟨ht, t1⟩, rfl⟩
  repeat' walk_at "dl"
  refine ew_lstRg ?_
  repeat' walk_at "dl"
  refine ⟨by unfold RgOk; omega, ?_⟩
  repeat' walk_at "dl"
  refine mixed_at (by simp [rangeD]; omega) fun es' hp' => ?_
  obtain ⟨o, rfl, ho⟩ := order_of hp'
  have hol : o.length ≤ 6 := by rw [ho.length_eq, List.length_range]; exact hn6
  have hok : ∀ k, k ∈ o → k < n.toNat := fun k hk => List.mem_range.mp (ho.mem_iff.mp hk)
  have hpk := hp.ok hn6
  have hrk := hrm.rmk
  have hpl := hp.len
  have hrl : ∀ r, r ∈ rows → r.1.length = n.toNat := fun r hr => (hrm.row r hr).1
  have ho7 : ∀ x, x ∈ o.map (fun (k : Nat) => (k : Int)) → Bit 20 x := fun x hx => by
    obtain ⟨k, hk, rfl⟩ := List.mem_map.mp hx
    have := hok k hk
    unfold Bit
    omega
  have hr24 : rows.length ≤ 24 := by have := hrm.len; omega
  have sh0 := shK_room hnb hr24 fun r hr => (hrm.row r hr).2.mono (by decide)
  have sh1 := shK_room (rows := shiftR rows p) hnb (by unfold shiftR; rw [List.length_map]; exact hr24) (shift_ok hrm hpk)
  have sh2 := shK_room (rows := scaleR rows t) hnb (by unfold scaleR; rw [List.length_map]; exact hr24) (scale_ok hrm ht)
  have sh3 := shK_room (rows := mirrorR rows) hnb (by unfold mirrorR; rw [List.length_map]; exact hr24) (mirror_ok hrm)
  have sh4 := shK_room (rows := placeR rows o) hnb (by unfold placeR; rw [List.length_map]; exact hr24) (place_ok hrm hol hok)
  have sh5 := shK_room (rows := []) hnb (by decide) (fun r hr => by cases hr)
  have shO : Sh 2 200000 (intsD (o.map fun (k : Nat) => (k : Int))) := (Sh.tuple (sh_ints ho7 (by decide))).mono (by decide) (by rw [List.length_map, List.length_map]; omega)
  have shT : Sh 6 6100000 (.list (toldL n rows p t o)) := (Sh.list (k := 5) (m := 1215421) (xs := toldL n rows p t o) fun x hx => by
    unfold toldL at hx
    simp only [List.mem_cons, List.not_mem_nil, or_false] at hx
    rcases hx with rfl | rfl | rfl | rfl | rfl
    · exact sh1
    · exact sh2
    · exact sh3
    · exact sh4
    · exact sh5).mono (by decide) (show 5 * (1215421 + 2) + 2 ≤ 6100000 by decide)
  have shKept : Sh 6 3700000 (.list [roomD n rows, ptD p, intsD (o.map fun (k : Nat) => (k : Int))]) := (sh3l sh0 ((sh_pt hpk).mono (by decide) (by decide)) (shO.mono (by decide) (by decide))).mono (by decide) (by decide)
  repeat' walk_at "dl"
  refine ra_l shKept (q := ?_)
  refine sw_mid (fun e => e = [.raw (.ref u), .dat (.int n), .dat (roomD n rows), .dat (ptD p), .dat (frD t), .dat (intsD (o.map fun (k : Nat) => (k : Int))), .dat (.str (PyData.list [roomD n rows, ptD p, intsD (o.map fun (k : Nat) => (k : Int))]).shown), .dat (.list (toldL n rows p t o)), .non, .non, .non, .non, .non, .non, .non, .non, .non, .non, .non, .non]) ?_ ?_
  · repeat' walk_at "dl"
    refine ⟨n, rows, p, rfl, hrk, hpk, ?_⟩
    repeat' walk_at "dl"
    refine ⟨n, rows, t, rfl, hrk, ht.mono (by decide), ?_⟩
    repeat' walk_at "dl"
    refine ⟨n, rows, rfl, hrk, ?_⟩
    repeat' walk_at "dl"
    refine ⟨n, rows, o, rfl, hrk, hol, fun r hr k hk => by rw [hrl r hr]; exact hok k hk, ?_⟩
    repeat' walk_at "dl"
    refine ⟨n, rfl, ?_⟩
    repeat' walk_at "dl"
    rfl
  rintro e rfl
  refine sw_seq (sw_new ?_)
  repeat' walk_at "dl"
  refine ⟨n, rows, p, rfl, hrk, hpk, fun r hr => ⟨by rw [hrl r hr, hpl], by omega⟩, ?_⟩
  repeat' walk_at "dl"
  refine ⟨n, rows, t, rfl, hrk, ht.mono (by decide), fun r hr => by rw [hrl r hr]; exact hn6, ?_⟩
  repeat' walk_at "dl"
  intro a
  show SW (Fsrc u l) [.raw (.ref u), .dat (.int n), .dat (roomD n rows), .dat (ptD p), .dat (frD t), .dat (intsD (o.map fun (k : Nat) => (k : Int))), .dat (.str (PyData.list [roomD n rows, ptD p, intsD (o.map fun (k : Nat) => (k : Int))]).shown), .dat (.list (toldL n rows p t o)), .own a [roomD n (shiftR rows p), roomD n (scaleR rows t)], .non, .non, .non, .non, .non, .non, .non, .non, .non, .non, .non] _ _
  refine sw_mid (fun e => e = [.raw (.ref u), .dat (.int n), .dat (roomD n rows), .dat (ptD p), .dat (frD t), .dat (intsD (o.map fun (k : Nat) => (k : Int))), .dat (.str (PyData.list [roomD n rows, ptD p, intsD (o.map fun (k : Nat) => (k : Int))]).shown), .dat (.list (toldL n rows p t o)), .own a [roomD n (shiftR rows p), roomD n (scaleR rows t), roomD n (mirrorR rows)], .non, .non, .non, .non, .non, .non, .non, .non, .non, .non, .non]) ?_ ?_
  · refine sw_append rfl (show (2 : Nat) < 100000 by decide) ?_
    repeat' walk_at "dl"
    refine ew_lcEq ((mirrorR rows).map fun r => rowD r.1 r.2) (it_tup ?_)
    repeat' walk_at "dl"
    refine ⟨by simp; omega, by simp [mirrorR], fun i d v hd hv => ?_, ?_⟩
    · obtain ⟨r, hr', rfl⟩ := map_inv hd
      have hm := List.mem_of_getElem? hr'
      have hro := (hrm.row r hm).2
      have hl2 := hro.len
      unfold mirrorR at hv
      rw [List.map_map] at hv
      rw [map_get hr' hv]
      refine gc_tup ⟨_, rfl, rfl, gcs_cons (gc_name (by decide) (gcs_cons (gc_name (by decide) (gcs_nil ?_))))⟩
      repeat' walk_at "dl"
      refine ew_lcEq ((r.1.map (- ·)).map PyData.int) (it_tup (ew_var rfl (ex_t ?_)))
      refine ⟨by simp; omega, by simp, fun j d v hd hv => ?_, ?_⟩
      · obtain ⟨x, hx, rfl⟩ := map_inv hd
        rw [List.map_map] at hv
        rw [map_get hx hv]
        refine gc_name (by decide) ?_
        repeat' walk_at "dl"
        rw [Int.zero_sub]
        rfl
      · repeat' walk_at "dl"
        refine plain_at ?_ ?_
        · refine ⟨by rw [List.length_map]; exact hl2, fun y hy => ?_, hro.bb.mono (by decide)⟩
          obtain ⟨x, hx, rfl⟩ := List.mem_map.mp hy
          exact ((hro.ba x hx).neg).mono (by decide)
        · rfl
    repeat' walk_at "dl"
    rfl
  rintro e rfl
  refine sw_thaw 8 rfl ?_
  show SW (Fsrc u l) [.raw (.ref u), .dat (.int n), .dat (roomD n rows), .dat (ptD p), .dat (frD t), .dat (intsD (o.map fun (k : Nat) => (k : Int))), .dat (.str (PyData.list [roomD n rows, ptD p, intsD (o.map fun (k : Nat) => (k : Int))]).shown), .dat (.list (toldL n rows p t o)), .dat (.list [roomD n (shiftR rows p), roomD n (scaleR rows t), roomD n (mirrorR rows)]), .non, .non, .non, .non, .non, .non, .non, .non, .non, .non, .non] _ _
  repeat' walk_at "dl"
  refine ⟨n, rows, o, rfl, hrk, hol, fun r hr k hk => by rw [hrl r hr]; exact hok k hk, ?_⟩
  repeat' walk_at "dl"
  · exact Nat.le_of_ble_eq_true rfl
  refine ra_l shT (q := ?_)
  repeat' walk_at "dl"
  refine ra_l shT (q := ?_)
  repeat' walk_at "dl"
  refine ne_sameA rfl ?_
  repeat' walk_at "dl"
  refine ra_l shKept (q := ?_)
  repeat' walk_at "dl"
  refine ne_sameA rfl ?_
  repeat' walk_at "dl"
  refine sw_for (it_range1 ?_)
  repeat' walk_at "dl"
  refine ⟨_, rfl, by decide, by decide, ?_⟩
  refine ⟨fun i e => ∃ z8 z12 z13 z14 z15 z16 z17, e = [.raw (.ref u), .dat (.int n), .dat (roomD n rows), .dat (ptD p), .dat (frD t), .dat (intsD (o.map fun (k : Nat) => (k : Int))), .dat (.str (PyData.list [roomD n rows, ptD p, intsD (o.map fun (k : Nat) => (k : Int))]).shown), .dat (.list (toldL n rows p t o)), z8, .non, .non, .non, z12, z13, z14, z15, z16, z17, .non, .non], ⟨_, _, _, _, _, _, _, rfl⟩, ?_, ?_⟩
  · rintro i d e hd ⟨z8, z12, z13, z14, z15, z16, z17, rfl⟩
    refine gw_name ?_
    repeat' walk_at "dl"
    refine point_at h0 h1 fun x hx => ?_
    have hxk := hx.ok hn6
    have hxl := hx.len
    repeat' walk_at "dl"
    refine isin_at hrk hxk (fun r hr => by rw [hrl r hr, hxl]) ?_
    refine sw_mid (fun e => e = [.raw (.ref u), .dat (.int n), .dat (roomD n rows), .dat (ptD p), .dat (frD t), .dat (intsD (o.map fun (k : Nat) => (k : Int))), .dat (.str (PyData.list [roomD n rows, ptD p, intsD (o.map fun (k : Nat) => (k : Int))]).shown), .dat (.list (toldL n rows p t o)), .dat (.bool (isInB rows x)), .non, .non, .non, .dat d, .dat (ptD x), .dat (ptD (plF x p)), z15, z16, z17, .non, .non]) ?_ ?_
    · repeat' walk_at "dl"
      refine ew_lcEq ((plF x p).map frD) (it_zipM ?_)
      repeat' walk_at "dl"
      refine ⟨_, _, _, _, rfl, rfl, rfl, by simp [zipD]; omega, by simp [zipD, plF], fun j d v hd hv => ?_, ?_⟩
      · obtain ⟨d1, d2, hd1, hd2, rfl⟩ := zipD_inv hd
        obtain ⟨y, hy, rfl⟩ := map_inv hd1
        obtain ⟨z, hz, rfl⟩ := map_inv hd2
        unfold plF at hv
        rw [map_get (zw_get hy hz) hv]
        refine gc_tup ⟨_, rfl, rfl, gcs_cons (gc_name (by decide) (gcs_cons (gc_name (by decide) (gcs_nil ?_))))⟩
        repeat' walk_at "dl"
        exact ⟨y, z, rfl, (hx.fq y (List.mem_of_getElem? hy)).1.mono (by decide), (hp.fq z (List.mem_of_getElem? hz)).1.mono (by decide), rfl⟩
      repeat' walk_at "dl"
      rfl
    rintro e rfl
    refine sw_mid (fun e => e = [.raw (.ref u), .dat (.int n), .dat (roomD n rows), .dat (ptD p), .dat (frD t), .dat (intsD (o.map fun (k : Nat) => (k : Int))), .dat (.str (PyData.list [roomD n rows, ptD p, intsD (o.map fun (k : Nat) => (k : Int))]).shown), .dat (.list (toldL n rows p t o)), .dat (.bool (isInB rows x)), .non, .non, .non, .dat d, .dat (ptD x), .dat (ptD (plF x p)), z15, .dat (ptD (x.map (tm t))), .dat (ptD (x.map fun z => (0 - z.1, z.2))), .non, .non]) ?_ ?_
    · repeat' walk_at "dl"
      refine ew_lcEq ((x.map (tm t)).map frD) (it_tup (ew_var rfl (ex_t ?_)))
      refine ⟨by simp; omega, by simp, fun j d v hd hv => ?_, ?_⟩
      · obtain ⟨y, hy, rfl⟩ := map_inv hd
        rw [List.map_map] at hv
        rw [map_get hy hv]
        refine gc_name (by decide) ?_
        repeat' walk_at "dl"
        exact ⟨t, y, rfl, ht.mono (by decide), (hx.fq y (List.mem_of_getElem? hy)).1.mono (by decide), rfl⟩
      repeat' walk_at "dl"
      refine ew_lcEq ((x.map fun z => (0 - z.1, z.2)).map frD) (it_tup (ew_var rfl (ex_t ?_)))
      refine ⟨by simp; omega, by simp, fun j d v hd hv => ?_, ?_⟩
      · obtain ⟨y, hy, rfl⟩ := map_inv hd
        rw [List.map_map] at hv
        rw [map_get hy hv]
        refine gc_name (by decide) ?_
        repeat' walk_at "dl"
        rfl
      repeat' walk_at "dl"
      rfl
    rintro e rfl
    have hln : ∀ {f : List Int × Int → List Int × Int}, (rows.map f).length ≤ 100 := fun {f} => by rw [List.length_map]; omega
    have rm1 : RmOk (shiftR rows p) := ⟨hln, fun r hr => (shift_ok hrm hpk r hr).mono (by decide)⟩
    have rm2 : RmOk (scaleR rows t) := ⟨hln, fun r hr => (scale_ok hrm ht r hr).mono (by decide)⟩
    have rm3 : RmOk (mirrorR rows) := ⟨hln, fun r hr => (mirror_ok hrm r hr).mono (by decide)⟩
    have rm4 : RmOk (placeR rows o) := ⟨hln, fun r hr => (place_ok hrm hol hok r hr).mono (by decide)⟩
    have rm5 : RmOk [] := ⟨by decide, fun r hr => by cases hr⟩
    have rm0 : RmOk rows := ⟨by omega, fun r hr => (hrm.row r hr).2.mono (by decide)⟩
    have pt2 : PtOk (x.map (tm t)) := ⟨by rw [List.length_map]; omega, fun z hz => by
      obtain ⟨y, hy, rfl⟩ := List.mem_map.mp hz
      exact (tm_fq ht (hx.fq y hy).1).mono (by decide)⟩
    have pt3 : PtOk (x.map fun z => (0 - z.1, z.2)) := ⟨by rw [List.length_map]; omega, fun z hz => by
      obtain ⟨y, hy, rfl⟩ := List.mem_map.mp hz
      have f := (hx.fq y hy).1
      exact ⟨f.pos, by rw [Int.zero_sub]; exact f.b1.neg.mono (by decide), f.b2.mono (by decide)⟩⟩
    have hog : ∀ k, k ∈ o → ∃ z, x[k]? = some z ∧ x.getD k (0, 1) = z := fun k hk => by
      have hk2 : k < x.length := by rw [hxl]; exact hok k hk
      exact ⟨x[k], List.getElem?_eq_getElem hk2, getD_map (List.getElem?_eq_getElem hk2)⟩
    have pt4 : PtOk (o.map (x.getD · (0, 1))) := ⟨by rw [List.length_map]; omega, fun z hz => by
      obtain ⟨k, hk, rfl⟩ := List.mem_map.mp hz
      obtain ⟨z, h1, h2⟩ := hog k hk
      rw [h2]
      exact hxk.fq z (List.mem_of_getElem? h1)⟩
    refine sw_seq (sw_new ?_)
    repeat' walk_at "dl"
    refine room_at (n := n) rm1 (plF_ok hx hp hn6) ?_
    repeat' walk_at "dl"
    refine room_at (n := n) rm2 pt2 ?_
    repeat' walk_at "dl"
    refine room_at (n := n) rm3 pt3 ?_
    repeat' walk_at "dl"
    rw [in_shift hx.pos hp.pos (by rw [hxl, hpl]), in_scale hx.pos t1 ht.pos, in_mirror hx.pos]
    intro a
    generalize hb : isInB rows x = b
    show SW (Fsrc u l) [.raw (.ref u), .dat (.int n), .dat (roomD n rows), .dat (ptD p), .dat (frD t), .dat (intsD (o.map fun (k : Nat) => (k : Int))), .dat (.str (PyData.list [roomD n rows, ptD p, intsD (o.map fun (k : Nat) => (k : Int))]).shown), .dat (.list (toldL n rows p t o)), .dat (.bool b), .non, .non, .non, .dat d, .dat (ptD x), .dat (ptD (plF x p)), .own a [.bool b, .bool b, .bool b], .dat (ptD (x.map (tm t))), .dat (ptD (x.map fun z => (0 - z.1, z.2))), .non, .non] _ _
    refine sw_mid (fun e => e = [.raw (.ref u), .dat (.int n), .dat (roomD n rows), .dat (ptD p), .dat (frD t), .dat (intsD (o.map fun (k : Nat) => (k : Int))), .dat (.str (PyData.list [roomD n rows, ptD p, intsD (o.map fun (k : Nat) => (k : Int))]).shown), .dat (.list (toldL n rows p t o)), .dat (.bool b), .non, .non, .non, .dat d, .dat (ptD x), .dat (ptD (plF x p)), .own a [.bool b, .bool b, .bool b, .bool b], .dat (ptD (x.map (tm t))), .dat (ptD (x.map fun z => (0 - z.1, z.2))), .non, .non]) ?_ ?_
    · refine sw_append rfl (show (3 : Nat) < 100000 by decide) ?_
      repeat' walk_at "dl"
      refine ew_lcEq ((o.map (x.getD · (0, 1))).map frD) (it_tup (ew_var rfl (ex_t ?_)))
      refine ⟨by simp; omega, by simp, fun j d v hd hv => ?_, ?_⟩
      · rw [List.map_map] at hd
        obtain ⟨k, hk, rfl⟩ := map_inv hd
        rw [List.map_map] at hv
        rw [map_get hk hv]
        obtain ⟨z, g1, g2⟩ := hog k (List.mem_of_getElem? hk)
        refine gc_name (by decide) ?_
        repeat' walk_at "dl"
        refine od_ix ⟨_, _, _, rfl, rfl, atI_nat (map_some g1), ?_⟩
        show _ = frD (x.getD k (0, 1))
        rw [g2]
      repeat' walk_at "dl"
      refine room_at (n := n) rm4 pt4 ?_
      repeat' walk_at "dl"
      rw [in_place hx.pos (fun r hr => by rw [hrl r hr, hxl]) (by rw [hxl]; exact ho), hb]
      rfl
    rintro e rfl
    refine sw_thaw 15 rfl ?_
    show SW (Fsrc u l) [.raw (.ref u), .dat (.int n), .dat (roomD n rows), .dat (ptD p), .dat (frD t), .dat (intsD (o.map fun (k : Nat) => (k : Int))), .dat (.str (PyData.list [roomD n rows, ptD p, intsD (o.map fun (k : Nat) => (k : Int))]).shown), .dat (.list (toldL n rows p t o)), .dat (.bool b), .non, .non, .non, .dat d, .dat (ptD x), .dat (ptD (plF x p)), .dat (.list [.bool b, .bool b, .bool b, .bool b]), .dat (ptD (x.map (tm t))), .dat (ptD (x.map fun z => (0 - z.1, z.2))), .non, .non] _ _
    repeat' walk_at "dl"
    refine room_at (n := n) rm5 hxk ?_
    repeat' walk_at "dl"
    refine room_at (n := n) rm0 hxk ?_
    repeat' walk_at "dl"
    · exact Nat.le_of_ble_eq_true rfl
    rw [hb, show isInB [] x = true from rfl]
    have shB := sh_bools (ds := [b, b, b, b, true, b]) (show 6 ≤ 100 by decide)
    refine ra_l shB (q := ?_)
    repeat' walk_at "dl"
    · decide
    · decide
    repeat' walk_at "dl"
    · exact Nat.le_of_ble_eq_true rfl
    refine ra_l shB (q := ?_)
    repeat' walk_at "dl"
    refine ne_sameA rfl ?_
    repeat' walk_at "dl"
    exact ⟨_, _, _, _, _, _, _, rfl⟩
  · rintro e ⟨z8, z12, z13, z14, z15, z16, z17, rfl⟩
    repeat' walk_at "dl"
    exact hR
end
end E3
end
section
set_option Elab.async false
set_option linter.all false
set_option maxRecDepth 100000
set_option maxHeartbeats 0
namespace E3
open PySem L2 PySem.Spec PyProof.Rows Dl RZ Ev

def mHalf1 (B : Fr) (es : List Ent) (R : PyData → Prop) : Prop := ∃ (p l : Addr), B = Fsrc p l ∧ es = [.raw (.ref p)] ∧ R (.bool true)
theorem half1_at {p l : Addr} {R : PyData → Prop} (r : R (.bool true)) : mHalf1 (Fsrc p l) [.raw (.ref p)] R := ⟨p, l, rfl, rfl, r⟩
theorem in_prod {n m : Nat} {r1 r2 : Rows} {x y : List (Int × Int)} (hx : ∀ z, z ∈ x → 0 < z.2) (hy : ∀ z, z ∈ y → 0 < z.2) (hlx : x.length = n) (h1 : ∀ r, r ∈ r1 → r.1.length = n) : isInB (prodR n m r1 r2) (x ++ y) = (isInB r1 x && isInB r2 y) := by
  have hp : ∀ z, z ∈ x ++ y → 0 < z.2 := fun z hz => (List.mem_append.mp hz).elim (hx z) (hy z)
  have e : isInB (prodR n m r1 r2) (x ++ y) = (isInB (r1.map fun r => plainR (r.1 ++ List.replicate m 0) r.2) (x ++ y) && isInB (r2.map fun r => plainR (List.replicate n 0 ++ r.1) r.2) (x ++ y)) := by
    rw [isIn_all, isIn_all, isIn_all, Bool.eq_iff_iff, Bool.and_eq_true, decide_eq_true_iff, decide_eq_true_iff, decide_eq_true_iff]
    unfold prodR
    constructor
    · intro z
      exact ⟨fun r hr => z r (List.mem_append_left _ hr), fun r hr => z r (List.mem_append_right _ hr)⟩
    · rintro ⟨z1, z2⟩ r hr
      exact (List.mem_append.mp hr).elim (z1 r) (z2 r)
  rw [e]
  congr 1
  · refine isIn_map fun r hr => ?_
    rw [broken_plain hp]
    exact broken_front hx hy (by rw [h1 r hr, hlx]) m
  · refine isIn_map fun r hr => ?_
    rw [broken_plain hp]
    exact broken_behind hx hy hlx.symm
theorem prod_ok {n m : Nat} {r1 r2 : Rows} (h1 : RmD n r1) (h2 : RmD m r2) (h : n + m ≤ 6) : ∀ r, r ∈ prodR n m r1 r2 → RowOk 1800 r.1 r.2 := fun r hr => by
  rcases List.mem_append.mp hr with q | q
  · obtain ⟨s, hs, rfl⟩ := List.mem_map.mp q
    exact (plain_ok (app_rep_ok (h1.row s hs).2 (h1.row s hs).1 (m := m) (by omega)).1 (by decide)).mono (by decide)
  · obtain ⟨s, hs, rfl⟩ := List.mem_map.mp q
    exact (plain_ok (app_rep_ok (h2.row s hs).2 (h2.row s hs).1 (m := n) (by omega)).2 (by decide)).mono (by decide)
theorem box_ok {n : Nat} {low high : List (Int × Int)} (h1 : PtD n low) (h2 : PtD n high) (h : n ≤ 6) : (boxR low high).length ≤ 24 ∧ ∀ r, r ∈ boxR low high → RowOk 1800 r.1 r.2 := by
  have hl := h1.len
  have gd : ∀ {xs : List (Int × Int)}, PtD n xs → ∀ k, k < n → Fq 80 (xs.getD k (0, 1)) := fun {xs} hx k hk => by
    have e : xs[k]? = some (xs[k]'(by rw [hx.len]; exact hk)) := List.getElem?_eq_getElem _
    rw [getD_map e]
    exact (hx.fq _ (List.mem_of_getElem? e)).1
  constructor
  · unfold boxR boxF
    rw [List.length_flatten, List.map_map]
    have : ∀ n, ((List.range n).map (List.length ∘ boxAt low high)).sum = 2 * n := fun n => by
      induction n with
      | zero => rfl
      | succ n ih => rw [List.range_succ, List.map_append, List.sum_append, ih]; show 2 * n + 2 = _; omega
    rw [this]
    omega
  · intro r hr
    unfold boxR boxF at hr
    obtain ⟨l, hl2, hr2⟩ := List.mem_flatten.mp hr
    obtain ⟨k, hk, rfl⟩ := List.mem_map.mp hl2
    have hk2 : k < n := by rw [← hl]; exact List.mem_range.mp hk
    have f1 := gd h1 k hk2
    have f2 := gd h2 k hk2
    unfold boxAt at hr2
    simp only [List.mem_cons, List.not_mem_nil, or_false] at hr2
    rcases hr2 with rfl | rfl
    · exact plain_ok (unit_ok (by omega) (f2.b2.mono (by decide)) (f2.b1.mono (by decide))) (by decide)
    · exact plain_ok (unit_ok (by omega) (f1.b2.neg.mono (by decide)) (f1.b1.neg.mono (by decide))) (by decide)
theorem box_at {n : Nat} {low high : List (Int × Int)} {B : Fr} {R : PyData → Prop} (h1 : PtD n low) (h2 : PtD n high) (h : n ≤ 6) (r : R (roomD low.length (boxR low high))) : mBoxed B [.dat (.tuple (low.map frD)), .dat (.tuple (high.map frD))] R := ⟨low, high, rfl, by rw [h1.len, h2.len], by rw [h1.len]; exact h, h1.ok h, h2.ok h, r⟩
def IsV (d : PyData) : Prop := ∃ xs : List (Int × Int), (VtOk 80 xs ∧ ∀ x, x ∈ xs → Nf x) ∧ d = ptD xs
def IsM (d : PyData) : Prop := ∃ mat : List (List (Int × Int)), MtOk mat ∧ d = matD mat
theorem isV_list : ∀ (ds : List PyData), (∀ d, d ∈ ds → IsV d) → ∃ mat : List (List (Int × Int)), ds = mat.map ptD ∧ ∀ x, x ∈ mat → VtOk 80 x ∧ ∀ y, y ∈ x → Nf y
  | [], _ => ⟨[], rfl, fun _ h => by cases h⟩
  | d :: ds, h => by
    obtain ⟨xs, e, hx⟩ := isV_list ds fun y hy => h y (List.mem_cons_of_mem _ hy)
    obtain ⟨x, fx, e2⟩ := h d List.mem_cons_self
    refine ⟨x :: xs, by rw [e, e2]; rfl, fun y hy => ?_⟩
    rcases List.mem_cons.mp hy with q | q
    · exact q ▸ fx
    · exact hx y q
theorem img_nf {mat : List (List (Int × Int))} {pt sh : List (Int × Int)} {n : Nat} (h1 : MtOk mat) (h2 : VtOk 80 pt) (h3 : VtOk n sh) : ∀ x, x ∈ imgF mat pt sh → Nf x := fun z hz => by
  obtain ⟨l, hl, m, hm, rfl⟩ := mem_zw hz
  have q := h1.fq l hl
  exact lst_nf (Int.mul_pos (sum_fq q.1 q.2 h2.fq).pos (h3.fq m hm).pos)
theorem shV {n : Nat} {xs : List (Int × Int)} (h : VtOk n xs) (l : n ≤ 12000) : Sh 3 200000 (ptD xs) := (Sh.tuple (k := 2) (m := 27000) fun x hx => by
  obtain ⟨y, hy, rfl⟩ := List.mem_map.mp hx
  exact (h.fq y hy).sh l).mono (by decide) (by have := h.len; rw [List.length_map]; omega)
theorem cut1 {α : Type} {f : α → PyData} (xs : List α) : Dl.cutD (xs.map f) none (some 1) = (xs.take 1).map f := by
  unfold Dl.cutD
  cases xs with
  | nil => rfl
  | cons x xs =>
    have e : HT.sIx (((x :: xs).map f).length) (((x :: xs).map f).length) (some 1) - HT.sIx (((x :: xs).map f).length) 0 none = 1 := by
      rw [show (some (1 : Int)) = some ((1 : Nat) : Int) from rfl, HT.sIx_nat, HT.sIx_none, List.length_map, List.length_cons]
      omega
    rw [e, HT.sIx_none]
    rfl
theorem moved_at {mat : List (List (Int × Int))} {pt sh : List (Int × Int)} {B : Fr} {R : PyData → Prop} (h1 : MtOk mat) (h2 : VtOk 80 pt) (h3 : VtOk 2100 sh) (hn : ∀ x, x ∈ sh → Nf x) (r : R (ptD (imgF mat pt sh))) : mMoved B [.dat (.tuple (mat.map ptD)), .dat (.tuple (pt.map frD)), .dat (.tuple (sh.map frD))] R := ⟨mat, pt, sh, rfl, h1, h2, h3, hn, r⟩
theorem MtOk.take {mat : List (List (Int × Int))} (h : MtOk mat) (i : Nat) : MtOk (mat.take i) := ⟨by have := h.len; rw [List.length_take]; omega, fun l hl => h.fq l (List.mem_of_mem_take hl)⟩
theorem VtOk.take {n : Nat} {xs : List (Int × Int)} (h : VtOk n xs) (i : Nat) : VtOk n (xs.take i) := ⟨by have := h.len; rw [List.length_take]; omega, fun l hl => h.fq l (List.mem_of_mem_take hl)⟩
theorem mt0 : MtOk [] := ⟨by decide, fun l h => by cases h⟩
theorem vt0 {n : Nat} : VtOk n [] := ⟨by decide, fun l h => by cases h⟩
local macro_rules | `(tactic| walk_at "dl") => `(tactic| first
  | ((with_reducible refine ew_varE ?_); refine ⟨_, rfl, ?_⟩)
  | ((with_reducible refine ew_int ?_))
  | ((with_reducible refine ew_str ?_))
  | ((with_reducible refine ew_bl ?_))
  | ((with_reducible refine ew_non ?_))
  | ((with_reducible refine ew_op ?_))
  | ((with_reducible refine ew_un ?_))
  | ((with_reducible refine ew_tup ?_))
  | ((with_reducible refine ew_lst ?_))
  | ((with_reducible refine ew_call ?_))
  | ((with_reducible refine ew_isi ?_))
  | ((with_reducible refine ew_cb ?_))
  | ((with_reducible refine ea_nil ?_))
  | ((with_reducible refine ea_rawE ?_); refine ⟨_, rfl, ?_⟩)
  | ((with_reducible refine ea_cons ?_))
  | ((with_reducible refine AllD.nil ?_))
  | ((with_reducible refine AllD.cons ?_))
  | ((with_reducible refine ew_isN ?_))
  | ((with_reducible refine ew_sl ?_))
  | ((with_reducible refine eo_none ?_))
  | ((with_reducible refine eo_some ?_))
  | ((with_reducible refine sd_list ?_); refine ⟨_, rfl, ?_⟩)
  | ((with_reducible refine sd_tup ?_); refine ⟨_, rfl, ?_⟩)
  | ((with_reducible refine tw_test ?_))
  | ((with_reducible refine tw_B ?_))
  | ((with_reducible refine tw_not ?_))
  | ((with_reducible refine tw_and ?_))
  | ((with_reducible refine tw_or ?_))
  | ((with_reducible refine ew_andV ?_))
  | ((with_reducible refine ew_orV ?_))
  | ((with_reducible refine ew_notV ?_))
  | ((with_reducible refine sw_seq ?_))
  | ((with_reducible refine sw_if ?_))
  | ((with_reducible refine sw_ret ?_))
  | ((with_reducible refine sw_set ?_))
  | ((with_reducible refine sw_par ?_))
  | ((with_reducible refine sw_nx ?_))
  | ((with_reducible refine od_ix ?_); refine ⟨_, _, _, rfl, rfl, rfl, ?_⟩)
  | ((with_reducible refine od_mulI ?_); refine ⟨_, _, rfl, rfl, ?_, ?_⟩)
  | ((with_reducible refine od_mulNI ?_); refine ⟨_, _, rfl, rfl, ?_, ?_⟩)
  | ((with_reducible refine od_addI ?_); refine ⟨_, _, rfl, rfl, ?_⟩)
  | ((with_reducible refine od_addL ?_); refine ⟨_, _, rfl, rfl, ?_, ?_⟩)
  | ((with_reducible refine od_addT ?_); refine ⟨_, _, rfl, rfl, ?_, ?_⟩)
  | ((with_reducible refine od_I0 ?_); refine ⟨_, _, rfl, rfl, ?_⟩)
  | ((with_reducible refine od_B0 ?_); refine ⟨_, _, rfl, rfl, ?_⟩)
  | ((with_reducible refine od_I ?_); refine ⟨_, _, rfl, rfl, ?_, ?_⟩)
  | ((with_reducible refine ud_I ?_); refine ⟨_, rfl, ?_⟩)
  | ((with_reducible refine od_eqI' ?_))
  | ((with_reducible refine od_neI' ?_))
  | ((with_reducible refine cd_gcd ?_); refine ⟨_, _, rfl, ?_⟩)
  | ((with_reducible refine cd_lcm ?_); refine ⟨_, _, rfl, ?_, ?_, ?_⟩)
  | ((with_reducible refine qAbs ?_); refine ⟨_, rfl, ?_⟩)
  | ((with_reducible refine qInt ?_); refine ⟨_, rfl, ?_⟩)
  | ((with_reducible refine qLen ?_); refine ⟨_, _, rfl, rfl, ?_⟩)
  | ((with_reducible refine qTup ?_); refine ⟨_, _, rfl, rfl, ?_⟩)
  | ((with_reducible refine qLst ?_); refine ⟨_, _, rfl, rfl, ?_⟩)
  | ((with_reducible refine cd_anyT ?_); refine ⟨_, rfl, ?_⟩)
  | ((with_reducible refine cd_sum ?_); refine ⟨_, rfl, ?_⟩)
  | ((with_reducible refine qIntB ?_); refine ⟨_, rfl, ?_⟩)
  | ((with_reducible refine qMax2 ?_); refine ⟨_, _, rfl, ?_⟩)
  | ((with_reducible refine cd_all ?_); refine ⟨_, rfl, ?_⟩)
  | ((with_reducible refine ex_b ?_))
  | ((with_reducible refine ex_i ?_))
  | ((with_reducible refine ex_t ?_))
  | ((with_reducible refine ex_l ?_))
  | ((with_reducible refine ex_2 ?_))
  | ((with_reducible refine pick_atE ?_); refine ⟨by decide, fun r h0 h1 => ?_⟩)
  | ((with_reducible refine od_mulNT ?_); refine ⟨_, _, rfl, rfl, ?_, ?_, ?_⟩)
  | ((with_reducible refine od_mulNL ?_); refine ⟨_, _, rfl, rfl, ?_, ?_, ?_⟩)
  | ((with_reducible refine len_and ?_ ?_); exact Nat.le_of_ble_eq_true rfl)
  | ((with_reducible refine own_and ?_ ?_); rfl))
section
variable {P : Program} {w : World} {K : PySem.W.Frag} {mg : Str → Option Value} {base : Heap}
theorem ok_l_two_right {f : Addr} {fd : FuncData} (F : Fun K "_law_two_right" "_law_two_right" st_l_two_right f fd) (T : Tx mg) (c_is_in : HasG P w K mg base "is_in" 3 ["room", "point"] (spG (mRoom fun rows xs => .bool (isInB rows xs)))) (c_joined : HasG P w K mg base "joined" 3 ["one", "other"] (spG mJoined)) (c_product : HasG P w K mg base "product" 3 ["one", "other"] (spG mProduct)) (c_boxed : HasG P w K mg base "boxed" 3 ["low", "high"] (spG mBoxed)) (c_l_pick : HasG P w K mg base "_law_pick" 1 ["source", "many"] (spG mPick)) (c_l_plain : HasG P w K mg base "_law_plain" 2 ["row"] (spG mPlain)) (c_l_is_in : HasG P w K mg base "_law_is_in" 4 ["room", "point"] (spG mIsIn)) (c_l_room : HasG P w K mg base "_law_room" 4 ["source", "n"] (spG mRoomD)) (c_l_point : HasG P w K mg base "_law_point" 4 ["source", "n"] (spG mPoint)) (c_l_boxed : HasG P w K mg base "_law_boxed" 4 ["low", "high"] (spG mBoxed)) (ND : NoDig base) : FnG P w K mg base 5 f fd ["source", "n"] (spG mHalf) := by
  have nd := sc_l_two_right.nd
  refine fn_dlG F sc_l_two_right (fun B es R ⟨p, l, n, _, e, _⟩ => by rw [e]; rfl) fun cdv A outer s H E hr gd B es R hm => ?_
  have hu := hu_of hr
  have hu64 := hr.units
  obtain ⟨u, l, n, rfl, rfl, h0, h1, hR⟩ := hm
  refine ⟨_, (pss_cons (ps_asg (pe_tup (pa_cons (c_l_room.call hr gd (pa_cons (pv 0) (pa_cons (pv 1) pa_nil))) (pa_cons (c_l_room.call hr gd (pa_cons (pv 0) (pa_cons (pv 1) pa_nil))) (pa_cons (c_l_pick.call hr gd (pa_cons (pv 0) (pa_cons (pe_op op_sub pe_int (pv 1)) pa_nil))) pa_nil)))) (kTg (K := K) (n := 3) rfl rfl (pgs_cons (pg_name (i := 2) nd rfl (by first | exact Or.inl rfl | exact Or.inr rfl)) (pgs_cons (pg_name (i := 3) nd rfl (by first | exact Or.inl rfl | exact Or.inr rfl)) (pgs_cons (pg_name (i := 4) nd rfl (by first | exact Or.inl rfl | exact Or.inr rfl)) pgs_nil)))))
      (pss_cons (ps_set (i := 5) nd rfl (by first | exact Or.inl rfl | exact Or.inr rfl) (c_l_room.call hr gd (pa_cons (pv 0) (pa_cons (pv 4) pa_nil))))
      (pss_cons (ps_setLc (i := 6) rfl nd rfl rfl (sw_true rfl rfl rfl (by decide +kernel)) (own := [("row", 7)]) (kTuple (K := K) rfl (pe_op (kAdd (K := K) rfl) (pe_ix (kIx (K := K) rfl) (pv 2) pe_int (fun _ _ => rfl)) (pe_ix (kIx (K := K) rfl) (pv 3) pe_int (fun _ _ => rfl)))) (blkOk_by (N := names_l_two_right) (sc := defScope st_l_two_right) (by decide +kernel)) (fun _ _ _ _ _ => (pg_name (i := 7) nd rfl (by first | exact Or.inl rfl | exact Or.inr rfl))) (fun _ _ _ _ _ => pts_nil) (fun _ _ _ _ _ => (c_l_plain.call hr gd (pa_cons (pv 7) pa_nil))))
      (pss_cons (ps_if (pt_cmpR (kNe (K := K) rfl hu64) (pe_callB (kReprA (K := K) rfl ND gd hu64) (by rfl) T.repr (by decide +kernel) (pa_cons (c_joined.call hr gd (pa_cons (pv 2) (pa_cons (pv 3) pa_nil))) pa_nil)) (pe_callB (kReprA (K := K) rfl ND gd hu64) (by rfl) T.repr (by decide +kernel) (pa_cons (pe_tup (pa_cons (pv 1) (pa_cons (pe_callTy (kTup (K := K) rfl) (by rfl) T.tuple (by decide +kernel) (pa_cons (pv 6) pa_nil)) pa_nil))) pa_nil)) (nomark _)) (pss_one (ps_ret pe_bl)) pss_nil)
      (pss_cons (ps_set (i := 6) nd rfl (by first | exact Or.inl rfl | exact Or.inr rfl) (pe_op (kAdd (K := K) rfl) (pe_lc (own := [("a", 8), ("b", 9)]) rfl nd (kTuple (K := K) rfl (pe_ix (kIx (K := K) rfl) (pv 2) pe_int (fun _ _ => rfl))) (blkOk_by (N := names_l_two_right) (sc := defScope st_l_two_right) (by decide +kernel)) (fun _ _ _ _ _ => (kTg (K := K) (n := 2) rfl rfl (pgs_cons (pg_name (i := 8) nd rfl (by first | exact Or.inl rfl | exact Or.inr rfl)) (pgs_cons (pg_name (i := 9) nd rfl (by first | exact Or.inl rfl | exact Or.inr rfl)) pgs_nil)))) (fun _ _ _ _ _ => pts_nil) (fun _ _ _ _ _ => (c_l_plain.call hr gd (pa_cons (pe_tup (pa_cons (pe_op (kAdd (K := K) rfl) (pv 8) (pe_op (kMulN (K := K) rfl) (pe_tup (pa_cons pe_int pa_nil)) (pv 4))) (pa_cons (pv 9) pa_nil))) pa_nil)))) (pe_lc (own := [("a", 8), ("b", 9)]) rfl nd (kTuple (K := K) rfl (pe_ix (kIx (K := K) rfl) (pv 5) pe_int (fun _ _ => rfl))) (blkOk_by (N := names_l_two_right) (sc := defScope st_l_two_right) (by decide +kernel)) (fun _ _ _ _ _ => (kTg (K := K) (n := 2) rfl rfl (pgs_cons (pg_name (i := 8) nd rfl (by first | exact Or.inl rfl | exact Or.inr rfl)) (pgs_cons (pg_name (i := 9) nd rfl (by first | exact Or.inl rfl | exact Or.inr rfl)) pgs_nil)))) (fun _ _ _ _ _ => pts_nil) (fun _ _ _ _ _ => (c_l_plain.call hr gd (pa_cons (pe_tup (pa_cons (pe_op (kAdd (K := K) rfl) (pe_op (kMulN (K := K) rfl) (pe_tup (pa_cons pe_int pa_nil)) (pv 1)) (pv 8)) (pa_cons (pv 9) pa_nil))) pa_nil))))))
      (pss_cons (ps_set (i := 10) nd rfl (by first | exact Or.inl rfl | exact Or.inr rfl) (c_product.call hr gd (pa_cons (pv 2) (pa_cons (pv 5) pa_nil))))
      (pss_cons (ps_if (pt_cmpR (kNe (K := K) rfl hu64) (pe_callB (kReprA (K := K) rfl ND gd hu64) (by rfl) T.repr (by decide +kernel) (pa_cons (pv 10) pa_nil)) (pe_callB (kReprA (K := K) rfl ND gd hu64) (by rfl) T.repr (by decide +kernel) (pa_cons (pe_tup (pa_cons (pe_op (kAdd (K := K) rfl) (pv 1) (pv 4)) (pa_cons (pe_callTy (kTup (K := K) rfl) (by rfl) T.tuple (by decide +kernel) (pa_cons (pv 6) pa_nil)) pa_nil))) pa_nil)) (nomark _)) (pss_one (ps_ret pe_bl)) pss_nil)
      (pss_cons (ps_par (i := 11) (j := 12) (by rfl) nd rfl rfl (by decide) rfl rfl (pa_cons (c_l_point.call hr gd (pa_cons (pv 0) (pa_cons (pv 1) pa_nil))) (pa_cons (c_l_point.call hr gd (pa_cons (pv 0) (pa_cons (pv 4) pa_nil))) pa_nil)) (by rfl))
      (pss_cons (ps_if (pt_cmpR (kNe (K := K) rfl hu64) (pe_callB (kReprA (K := K) rfl ND gd hu64) (by rfl) T.repr (by decide +kernel) (pa_cons (c_is_in.call hr gd (pa_cons (pv 10) (pa_cons (pe_op (kAdd (K := K) rfl) (pv 11) (pv 12)) pa_nil))) pa_nil)) (pe_callB (kReprA (K := K) rfl ND gd hu64) (by rfl) T.repr (by decide +kernel) (pa_cons (pe_and (c_l_is_in.call hr gd (pa_cons (pv 2) (pa_cons (pv 11) pa_nil))) (pe_one (c_l_is_in.call hr gd (pa_cons (pv 5) (pa_cons (pv 12) pa_nil))))) pa_nil)) (nomark _)) (pss_one (ps_ret pe_bl)) pss_nil)
      (pss_cons (ps_par (i := 13) (j := 14) (by rfl) nd rfl rfl (by decide) rfl rfl (pa_cons (c_l_point.call hr gd (pa_cons (pv 0) (pa_cons (pv 1) pa_nil))) (pa_cons (c_l_point.call hr gd (pa_cons (pv 0) (pa_cons (pv 1) pa_nil))) pa_nil)) (by rfl))
      (pss_one (ps_ret (pe_cmpR (kEq (K := K) rfl hu64) (pe_callB (kReprA (K := K) rfl ND gd hu64) (by rfl) T.repr (by decide +kernel) (pa_cons (pe_lst (pa_cons (c_boxed.call hr gd (pa_cons (pv 13) (pa_cons (pv 14) pa_nil))) (pa_cons (c_boxed.call hr gd (pa_cons (pv 13) (pa_cons (pv 13) pa_nil))) pa_nil))) pa_nil)) (pe_callB (kReprA (K := K) rfl ND gd hu64) (by rfl) T.repr (by decide +kernel) (pa_cons (pe_lst (pa_cons (c_l_boxed.call hr gd (pa_cons (pv 13) (pa_cons (pv 14) pa_nil))) (pa_cons (c_l_boxed.call hr gd (pa_cons (pv 13) (pa_cons (pv 13) pa_nil))) pa_nil))) pa_nil)) (nomark _)))))))))))))), ?_⟩
  show SW (Fsrc u l) [.raw (.ref u), .dat (.int n), .non, .non, .non, .non, .non, .non, .non, .non, .non, .non, .non, .non, .non] _ _
  have hn6 : n.toNat ≤ 6 := by omega
  have hnb : Bit 20 n := by unfold Bit; omega
  refine sw_seq (sw_asg (ew_tup ?_))
  repeat' walk_at "dl"
  refine roomD_at h0 h1 fun r1 hr1 => ?_
  repeat' walk_at "dl"
  refine roomD_at h0 h1 fun r2 hr2 => ?_
  repeat' walk_at "dl"
  refine ⟨u, l, 7 - n, rfl, rfl, by omega, fun k k0 k1 => ?_⟩
  have hkn : n + k ≤ 6 := by omega
  have hkt : n.toNat + k.toNat ≤ 6 := by omega
  repeat' walk_at "dl"
  refine gw_tup ⟨_, rfl, rfl, gws_cons (gw_name (gws_cons (gw_name (gws_cons (gw_name (gws_nil ?_))))))⟩
  refine sw_mid (fun e => ∃ r3, RmD k.toNat r3 ∧ e = [.raw (.ref u), .dat (.int n), .dat (roomD n r1), .dat (roomD n r2), .dat (.int k), .dat (roomD k r3), .non, .non, .non, .non, .non, .non, .non, .non, .non]) ?_ ?_
  · repeat' walk_at "dl"
    refine roomD_at k0 (by omega) fun r3 hr3 => ?_
    exact ⟨r3, hr3, rfl⟩
  rintro e ⟨r3, hr3, rfl⟩
  have k1' := hr1.rmk
  have k2' := hr2.rmk
  have k3' := hr3.rmk
  have l1 := hr1.len
  have l2 := hr2.len
  have l3 := hr3.len
  have hkb : Bit 20 (n + k) := by unfold Bit; omega
  have shJ := shK_room (rows := plainRows (r1 ++ r2)) hnb (by rw [List.length_map, List.length_append]; omega) fun r hr => by
    obtain ⟨s, hs, rfl⟩ := List.mem_map.mp hr
    exact plain_ok (((List.mem_append.mp hs).elim (fun q => (hr1.row s q).2) (fun q => (hr2.row s q).2)).mono (by decide)) (by decide)
  have shP := shK_room (rows := prodR n.toNat k.toNat r1 r3) hkb (by unfold prodR; rw [List.length_append, List.length_map, List.length_map]; omega) (prod_ok hr1 hr3 hkt)
  repeat' walk_at "dl"
  refine ew_lcEq ((plainRows (r1 ++ r2)).map fun r => rowD r.1 r.2) (it_tup ?_)
  repeat' walk_at "dl"
  · rw [List.length_map, List.length_map]
    omega
  rw [← List.map_append]
  refine ⟨by simp; omega, by simp, fun i d v hd hv => ?_, ?_⟩
  · obtain ⟨r, hr', rfl⟩ := map_inv hd
    have hm := List.mem_of_getElem? hr'
    have ho : RowOk 170 r.1 r.2 := (List.mem_append.mp hm).elim (fun q => (hr1.row r q).2) (fun q => (hr2.row r q).2)
    rw [List.map_map] at hv
    rw [map_get hr' hv]
    refine gc_name (by decide) ?_
    repeat' walk_at "dl"
    exact plain_at (ho.mono (by decide)) rfl
  repeat' walk_at "dl"
  refine ⟨n, n, r1, r2, rfl, k1'.mono (by decide), k2'.mono (by decide), ?_⟩
  repeat' walk_at "dl"
  refine ra_t shJ (q := ?_)
  repeat' walk_at "dl"
  refine ra_t shJ (q := ?_)
  repeat' walk_at "dl"
  refine ne_sameA rfl ?_
  repeat' walk_at "dl"
  refine ew_lcEq ((r1.map fun r => plainR (r.1 ++ List.replicate k.toNat 0) r.2).map fun r => rowD r.1 r.2) (it_tup ?_)
  repeat' walk_at "dl"
  refine ⟨by simp; omega, by simp, fun i d v hd hv => ?_, ?_⟩
  · obtain ⟨r, hr', rfl⟩ := map_inv hd
    have hm := hr1.row r (List.mem_of_getElem? hr')
    have ho := app_rep_ok (m := k.toNat) hm.2 hm.1 (by omega)
    rw [List.map_map] at hv
    rw [map_get hr' hv]
    refine gc_tup ⟨_, rfl, rfl, gcs_cons (gc_name (by decide) (gcs_cons (gc_name (by decide) (gcs_nil ?_))))⟩
    repeat' walk_at "dl"
    · exact k0
    · omega
    repeat' walk_at "dl"
    · have := ho.1.len
      rw [List.length_append, List.length_replicate] at this
      rw [List.length_map, List.length_replicate]
      omega
    repeat' walk_at "dl"
    rw [rep_ints, ← List.map_append]
    exact plain_at (ho.1.mono (by decide)) rfl
  repeat' walk_at "dl"
  refine ew_lcEq ((r3.map fun r => plainR (List.replicate n.toNat 0 ++ r.1) r.2).map fun r => rowD r.1 r.2) (it_tup ?_)
  repeat' walk_at "dl"
  refine ⟨by simp; omega, by simp, fun i d v hd hv => ?_, ?_⟩
  · obtain ⟨r, hr', rfl⟩ := map_inv hd
    have hm := hr3.row r (List.mem_of_getElem? hr')
    have ho := app_rep_ok (m := n.toNat) hm.2 hm.1 (by omega)
    rw [List.map_map] at hv
    rw [map_get hr' hv]
    refine gc_tup ⟨_, rfl, rfl, gcs_cons (gc_name (by decide) (gcs_cons (gc_name (by decide) (gcs_nil ?_))))⟩
    repeat' walk_at "dl"
    · exact h0
    · omega
    repeat' walk_at "dl"
    · have := ho.2.len
      rw [List.length_append, List.length_replicate] at this
      rw [List.length_map, List.length_replicate]
      omega
    repeat' walk_at "dl"
    rw [rep_ints, ← List.map_append]
    exact plain_at (ho.2.mono (by decide)) rfl
  repeat' walk_at "dl"
  · rw [List.length_map, List.length_map, List.length_map, List.length_map]
    omega
  rw [← List.map_append]
  refine ⟨n, k, r1, r3, rfl, k1'.mono (by decide), k3'.mono (by decide), h0, k0, hkn, fun r hr => (hr1.row r hr).1, fun r hr => (hr3.row r hr).1, ?_⟩
  show SW (Fsrc u l) [.raw (.ref u), .dat (.int n), .dat (roomD n r1), .dat (roomD n r2), .dat (.int k), .dat (roomD k r3), .dat (.list ((prodR n.toNat k.toNat r1 r3).map fun r => rowD r.1 r.2)), .non, .non, .non, .dat (roomD (n + k) (prodR n.toNat k.toNat r1 r3)), .non, .non, .non, .non] _ _
  repeat' walk_at "dl"
  refine ra_t shP (q := ?_)
  repeat' walk_at "dl"
  refine ra_t shP (q := ?_)
  repeat' walk_at "dl"
  refine ne_sameA rfl ?_
  refine sw_nx ?_
  refine sw_mid (fun e => ∃ x y, PtD n.toNat x ∧ PtD k.toNat y ∧ e = [.raw (.ref u), .dat (.int n), .dat (roomD n r1), .dat (roomD n r2), .dat (.int k), .dat (roomD k r3), .dat (.list ((prodR n.toNat k.toNat r1 r3).map fun r => rowD r.1 r.2)), .non, .non, .non, .dat (roomD (n + k) (prodR n.toNat k.toNat r1 r3)), .dat (ptD x), .dat (ptD y), .non, .non]) ?_ ?_
  · repeat' walk_at "dl"
    refine point_at h0 h1 fun x hx => ?_
    repeat' walk_at "dl"
    refine point_at k0 (by omega) fun y hy => ?_
    repeat' walk_at "dl"
    exact ⟨x, y, hx, hy, rfl⟩
  rintro e ⟨x, y, hx, hy, rfl⟩
  have hxl := hx.len
  have hyl := hy.len
  have pxy : PtOk (x ++ y) := ⟨by rw [List.length_append]; omega, fun z hz => ((List.mem_append.mp hz).elim (fun q => (hx.fq z q).1) (fun q => (hy.fq z q).1)).mono (by decide)⟩
  have rmP : RmOk (prodR n.toNat k.toNat r1 r3) := ⟨by unfold prodR; rw [List.length_append, List.length_map, List.length_map]; omega, fun r hr => (prod_ok hr1 hr3 hkt r hr).mono (by decide)⟩
  refine sw_mid (fun e => e = [.raw (.ref u), .dat (.int n), .dat (roomD n r1), .dat (roomD n r2), .dat (.int k), .dat (roomD k r3), .dat (.list ((prodR n.toNat k.toNat r1 r3).map fun r => rowD r.1 r.2)), .non, .non, .non, .dat (roomD (n + k) (prodR n.toNat k.toNat r1 r3)), .dat (ptD x), .dat (ptD y), .non, .non]) ?_ ?_
  · repeat' walk_at "dl"
    · rw [List.length_map, List.length_map]
      omega
    rw [← List.map_append]
    refine room_at (n := n + k) rmP pxy ?_
    rw [in_prod hx.pos hy.pos hxl fun r hr => (hr1.row r hr).1]
    repeat' walk_at "dl"
    refine ra_leaf (.inr (.inl ⟨_, rfl⟩)) ?_
    repeat' walk_at "dl"
    refine isin_at k1' (hx.ok hn6) (fun r hr => by rw [(hr1.row r hr).1, hxl]) ?_
    refine ⟨_, rfl, ?_⟩
    refine ite2 (fun hb => ?_) (fun hb => ?_)
    · repeat' walk_at "dl"
      refine isin_at k3' (hy.ok (by omega)) (fun r hr => by rw [(hr3.row r hr).1, hyl]) ?_
      repeat' walk_at "dl"
      refine ra_leaf (.inr (.inl ⟨_, rfl⟩)) ?_
      repeat' walk_at "dl"
      refine ne_sameA (by rw [hb]; rfl) ?_
      refine sw_nx ?_
      rfl
    · repeat' walk_at "dl"
      refine ra_leaf (.inr (.inl ⟨_, rfl⟩)) ?_
      repeat' walk_at "dl"
      refine ne_sameA (by rw [Bool.eq_false_iff.mpr hb]; rfl) ?_
      refine sw_nx ?_
      rfl
  rintro e rfl
  refine sw_mid (fun e => ∃ low high, PtD n.toNat low ∧ PtD n.toNat high ∧ e = [.raw (.ref u), .dat (.int n), .dat (roomD n r1), .dat (roomD n r2), .dat (.int k), .dat (roomD k r3), .dat (.list ((prodR n.toNat k.toNat r1 r3).map fun r => rowD r.1 r.2)), .non, .non, .non, .dat (roomD (n + k) (prodR n.toNat k.toNat r1 r3)), .dat (ptD x), .dat (ptD y), .dat (ptD low), .dat (ptD high)]) ?_ ?_
  · repeat' walk_at "dl"
    refine point_at h0 h1 fun low hlo => ?_
    repeat' walk_at "dl"
    refine point_at h0 h1 fun high hhi => ?_
    repeat' walk_at "dl"
    exact ⟨low, high, hlo, hhi, rfl⟩
  rintro e ⟨low, high, hlo, hhi, rfl⟩
  have b1 := box_ok hlo hhi hn6
  have b2 := box_ok hlo hlo hn6
  have hlb : Bit 20 (low.length : Int) := by rw [hlo.len]; unfold Bit; omega
  have shB := sh2l (shK_room hlb b1.1 b1.2) (shK_room hlb b2.1 b2.2)
  repeat' walk_at "dl"
  refine box_at hlo hhi hn6 ?_
  repeat' walk_at "dl"
  refine box_at hlo hlo hn6 ?_
  repeat' walk_at "dl"
  refine ra_l shB (q := ?_)
  repeat' walk_at "dl"
  refine box_at hlo hhi hn6 ?_
  repeat' walk_at "dl"
  refine box_at hlo hlo hn6 ?_
  repeat' walk_at "dl"
  refine ra_l shB (q := ?_)
  repeat' walk_at "dl"
  exact eq_sameA rfl hR
theorem ok_l_next_right {f : Addr} {fd : FuncData} (F : Fun K "_law_next_right" "_law_next_right" st_l_next_right f fd) (T : Tx mg) (c_image_of : HasG P w K mg base "image_of" 4 ["matrix", "point", "shift"] (spG mImage)) (c_next_of : HasG P w K mg base "next_of" 5 ["plant", "x", "u", "w"] (spG mNext)) (c_l_pick : HasG P w K mg base "_law_pick" 1 ["source", "many"] (spG mPick)) (c_l_room : HasG P w K mg base "_law_room" 4 ["source", "n"] (spG mRoomD)) (c_l_point : HasG P w K mg base "_law_point" 4 ["source", "n"] (spG mPoint)) (c_l_moved : HasG P w K mg base "_law_moved" 3 ["matrix", "point", "shift"] (spG mMoved)) (ND : NoDig base) : FnG P w K mg base 6 f fd ["source"] (spG mHalf1) := by
  have nd := sc_l_next_right.nd
  refine fn_dlG F sc_l_next_right (fun B es R ⟨p, l, _, e, _⟩ => by rw [e]; rfl) fun cdv A outer s H E hr gd B es R hm => ?_
  have hu := hu_of hr
  have hu64 := hr.units
  obtain ⟨u, l, rfl, rfl, hR⟩ := hm
  refine ⟨_, (pss_cons (ps_asg (pe_tup (pa_cons (pe_op (kAdd (K := K) rfl) pe_int (c_l_pick.call hr gd (pa_cons (pv 0) (pa_cons pe_int pa_nil)))) (pa_cons (c_l_pick.call hr gd (pa_cons (pv 0) (pa_cons pe_int pa_nil))) (pa_cons (c_l_pick.call hr gd (pa_cons (pv 0) (pa_cons pe_int pa_nil))) pa_nil)))) (kTg (K := K) (n := 3) rfl rfl (pgs_cons (pg_name (i := 1) nd rfl (by first | exact Or.inl rfl | exact Or.inr rfl)) (pgs_cons (pg_name (i := 2) nd rfl (by first | exact Or.inl rfl | exact Or.inr rfl)) (pgs_cons (pg_name (i := 3) nd rfl (by first | exact Or.inl rfl | exact Or.inr rfl)) pgs_nil)))))
      (pss_cons (ps_asg (pe_lc (own := [("size", 7)]) rfl nd (kTuple (K := K) rfl (pe_tup (pa_cons (pv 1) (pa_cons (pv 2) (pa_cons (pv 3) pa_nil))))) (blkOk_by (N := names_l_next_right) (sc := defScope st_l_next_right) (by decide +kernel)) (fun _ _ _ _ _ => (pg_name (i := 7) nd rfl (by first | exact Or.inl rfl | exact Or.inr rfl))) (fun _ _ _ _ _ => pts_nil) (fun _ _ _ _ _ => (pe_callTy (kTup (K := K) rfl) (by rfl) T.tuple (by decide +kernel) (pa_cons (pe_lc (own := [("lap", 8)]) rfl nd (pi_range1 (by rfl) T.range (pa_cons (pv 1) pa_nil)) (blkOk_re (N := names_l_next_right) (sc := ⟨.function, [(".0", .local), ("size", .cell), ("tuple", .globalImplicit), ("range", .globalImplicit), ("n", .free), ("source", .free)], false, false, []⟩) (by decide +kernel)) (fun _ _ _ _ _ => (pg_name (i := 8) nd rfl (by first | exact Or.inl rfl | exact Or.inr rfl))) (fun _ _ _ _ _ => pts_nil) (fun _ _ _ _ _ => (c_l_point.call hr gd (pa_cons (pv 0) (pa_cons (pv 7) pa_nil))))) pa_nil)))) (kUnl (K := K) (n := 3) rfl rfl (pgs_cons (pg_name (i := 4) nd rfl (by first | exact Or.inl rfl | exact Or.inr rfl)) (pgs_cons (pg_name (i := 5) nd rfl (by first | exact Or.inl rfl | exact Or.inr rfl)) (pgs_cons (pg_name (i := 6) nd rfl (by first | exact Or.inl rfl | exact Or.inr rfl)) pgs_nil)))))
      (pss_cons (ps_asg (pe_lc (own := [("size", 7)]) rfl nd (kTuple (K := K) rfl (pe_tup (pa_cons (pv 1) (pa_cons (pv 1) (pa_cons (pv 2) (pa_cons (pv 3) pa_nil)))))) (blkOk_by (N := names_l_next_right) (sc := defScope st_l_next_right) (by decide +kernel)) (fun _ _ _ _ _ => (pg_name (i := 7) nd rfl (by first | exact Or.inl rfl | exact Or.inr rfl))) (fun _ _ _ _ _ => pts_nil) (fun _ _ _ _ _ => (c_l_point.call hr gd (pa_cons (pv 0) (pa_cons (pv 7) pa_nil))))) (kUnl (K := K) (n := 4) rfl rfl (pgs_cons (pg_name (i := 9) nd rfl (by first | exact Or.inl rfl | exact Or.inr rfl)) (pgs_cons (pg_name (i := 10) nd rfl (by first | exact Or.inl rfl | exact Or.inr rfl)) (pgs_cons (pg_name (i := 11) nd rfl (by first | exact Or.inl rfl | exact Or.inr rfl)) (pgs_cons (pg_name (i := 12) nd rfl (by first | exact Or.inl rfl | exact Or.inr rfl)) pgs_nil))))))
      (pss_cons (ps_set (i := 13) nd rfl (by first | exact Or.inl rfl | exact Or.inr rfl) (c_l_moved.call hr gd (pa_cons (pv 6) (pa_cons (pv 12) (pa_cons (c_l_moved.call hr gd (pa_cons (pv 5) (pa_cons (pv 11) (pa_cons (c_l_moved.call hr gd (pa_cons (pv 4) (pa_cons (pv 10) (pa_cons (pv 9) pa_nil)))) pa_nil)))) pa_nil)))))
      (pss_cons (ps_set (i := 14) nd rfl (by first | exact Or.inl rfl | exact Or.inr rfl) (pe_tup (pa_cons (pv 4) (pa_cons (pv 5) (pa_cons (pv 6) (pa_cons (pv 9) (pa_cons (c_l_room.call hr gd (pa_cons (pv 0) (pa_cons (pv 2) pa_nil))) (pa_cons (c_l_room.call hr gd (pa_cons (pv 0) (pa_cons (pv 3) pa_nil))) pa_nil))))))))
      (pss_cons (ps_if (pt_cmpR (kNe (K := K) rfl hu64) (pe_callB (kReprA (K := K) rfl ND gd hu64) (by rfl) T.repr (by decide +kernel) (pa_cons (c_next_of.call hr gd (pa_cons (pv 14) (pa_cons (pv 10) (pa_cons (pv 11) (pa_cons (pv 12) pa_nil))))) pa_nil)) (pe_callB (kReprA (K := K) rfl ND gd hu64) (by rfl) T.repr (by decide +kernel) (pa_cons (pv 13) pa_nil)) (nomark _)) (pss_one (ps_ret pe_bl)) pss_nil)
      (pss_cons (ps_set (i := 15) nd rfl (by first | exact Or.inl rfl | exact Or.inr rfl) (pe_lst (pa_cons (c_image_of.call hr gd (pa_cons (pv 5) (pa_cons (pv 11) (pa_cons (pv 9) pa_nil)))) (pa_cons (c_image_of.call hr gd (pa_cons (pe_tup pa_nil) (pa_cons (pv 10) (pa_cons (pe_tup pa_nil) pa_nil)))) (pa_cons (c_image_of.call hr gd (pa_cons (pe_slice (kSl (K := K) rfl) (pv 5) po_none (po_some pe_int)) (pa_cons (pv 11) (pa_cons (pe_slice (kSl (K := K) rfl) (pv 9) po_none (po_some pe_int)) pa_nil)))) pa_nil)))))
      (pss_one (ps_ret (pe_cmpR (kEq (K := K) rfl hu64) (pe_callB (kReprA (K := K) rfl ND gd hu64) (by rfl) T.repr (by decide +kernel) (pa_cons (pv 15) pa_nil)) (pe_callB (kReprA (K := K) rfl ND gd hu64) (by rfl) T.repr (by decide +kernel) (pa_cons (pe_lst (pa_cons (c_l_moved.call hr gd (pa_cons (pv 5) (pa_cons (pv 11) (pa_cons (pv 9) pa_nil)))) (pa_cons (pe_tup pa_nil) (pa_cons (c_l_moved.call hr gd (pa_cons (pe_slice (kSl (K := K) rfl) (pv 5) po_none (po_some pe_int)) (pa_cons (pv 11) (pa_cons (pe_slice (kSl (K := K) rfl) (pv 9) po_none (po_some pe_int)) pa_nil)))) pa_nil)))) pa_nil)) (nomark _))))))))))), ?_⟩
  show SW (Fsrc u l) [.raw (.ref u), .non, .non, .non, .non, .non, .non, .non, .non, .non, .non, .non, .non, .non, .non, .non] _ _
  refine sw_seq (sw_asg (ew_tup ?_))
  repeat' walk_at "dl"
  rename_i n0 n1 n2 m m1 m2 k k1 k2
  refine gw_tup ⟨_, rfl, rfl, gws_cons (gw_name (gws_cons (gw_name (gws_cons (gw_name (gws_nil ?_))))))⟩
  have nn1 : 1 ≤ 1 + n0 := by omega
  have nn6 : 1 + n0 ≤ 6 := by omega
  have mm6 : m ≤ 6 := by omega
  have kk6 : k ≤ 6 := by omega
  generalize 1 + n0 = n at *
  refine sw_mid (fun z => ∃ a b e : List (List (Int × Int)), (MtOk a ∧ MtOk b ∧ MtOk e) ∧ z = [.raw (.ref u), .dat (.int n), .dat (.int m), .dat (.int k), .dat (matD a), .dat (matD b), .dat (matD e), .non, .non, .non, .non, .non, .non, .non, .non, .non]) ?_ ?_
  · refine sw_asg ?_
    refine ew_lcAll IsM (it_tup ?_)
    repeat' walk_at "dl"
    refine ⟨fun d hd => ?_, fun acc hal hA => ?_⟩
    · obtain ⟨z, rfl, z0, z1⟩ : ∃ z : Int, d = .int z ∧ 0 ≤ z ∧ z ≤ 6 := by
        simp only [List.mem_cons, List.not_mem_nil, or_false] at hd
        rcases hd with e | e | e <;> exact ⟨_, e, by omega, by omega⟩
      refine gc_name (by decide) ?_
      repeat' walk_at "dl"
      refine ew_lcAll IsV (it_range1 ?_)
      repeat' walk_at "dl"
      refine ⟨n, rfl, by omega, by omega, by simp [rangeD]; omega, fun d hd => ?_, fun acc hal hA => ?_⟩
      · refine gc_name (by decide) ?_
        repeat' walk_at "dl"
        exact point_at z0 z1 fun xs hx => ⟨xs, ⟨⟨by have := hx.len; omega, fun x h => (hx.fq x h).1⟩, fun x h => (hx.fq x h).2⟩, rfl⟩
      obtain ⟨mat, rfl, hmat⟩ := isV_list acc hA
      have hl : mat.length = n.toNat := by simpa [rangeD] using hal
      repeat' walk_at "dl"
      exact ⟨mat, ⟨by omega, fun l hl => ⟨(hmat l hl).1.len, (hmat l hl).1.fq⟩⟩, rfl⟩
    · match acc, hal, hA with
      | [d1, d2, d3], _, hA =>
        obtain ⟨a, ha, rfl⟩ := hA d1 (by simp)
        obtain ⟨b, hb, rfl⟩ := hA d2 (by simp)
        obtain ⟨e, he, rfl⟩ := hA d3 (by simp)
        refine gw_unl ⟨_, rfl, rfl, gws_cons (gw_name (gws_cons (gw_name (gws_cons (gw_name (gws_nil ?_))))))⟩
        exact ⟨a, b, e, ⟨ha, hb, he⟩, rfl⟩
  rintro z ⟨a, b, e, ⟨ha, hb, he⟩, rfl⟩
  refine sw_mid (fun z => ∃ c x v w' : List (Int × Int), (VtOk 80 c ∧ VtOk 80 x ∧ VtOk 80 v ∧ VtOk 80 w' ∧ ∀ y, y ∈ c → Nf y) ∧ z = [.raw (.ref u), .dat (.int n), .dat (.int m), .dat (.int k), .dat (matD a), .dat (matD b), .dat (matD e), .non, .non, .dat (ptD c), .dat (ptD x), .dat (ptD v), .dat (ptD w'), .non, .non, .non]) ?_ ?_
  · refine sw_asg ?_
    refine ew_lcAll IsV (it_tup ?_)
    repeat' walk_at "dl"
    refine ⟨fun d hd => ?_, fun acc hal hA => ?_⟩
    · obtain ⟨z, rfl, z0, z1⟩ : ∃ z : Int, d = .int z ∧ 0 ≤ z ∧ z ≤ 6 := by
        simp only [List.mem_cons, List.not_mem_nil, or_false] at hd
        rcases hd with e | e | e | e <;> exact ⟨_, e, by omega, by omega⟩
      refine gc_name (by decide) ?_
      repeat' walk_at "dl"
      exact point_at z0 z1 fun xs hx => ⟨xs, ⟨⟨by have := hx.len; omega, fun x h => (hx.fq x h).1⟩, fun x h => (hx.fq x h).2⟩, rfl⟩
    · match acc, hal, hA with
      | [d1, d2, d3, d4], _, hA =>
        obtain ⟨c, hc, rfl⟩ := hA d1 (by simp)
        obtain ⟨x, hx, rfl⟩ := hA d2 (by simp)
        obtain ⟨v, hv, rfl⟩ := hA d3 (by simp)
        obtain ⟨w', hw, rfl⟩ := hA d4 (by simp)
        refine gw_unl ⟨_, rfl, rfl, gws_cons (gw_name (gws_cons (gw_name (gws_cons (gw_name (gws_cons (gw_name (gws_nil ?_))))))))⟩
        exact ⟨c, x, v, w', ⟨hc.1, hx.1, hv.1, hw.1, hc.2⟩, rfl⟩
  rintro z ⟨c, x, v, w', ⟨hc, hx, hv, hw, hcn⟩, rfl⟩
  have c1 := img_ok ha hx hc
  have c2 := img_ok hb hv c1
  have c3 := img_ok he hw c2
  have n1' := img_nf ha hx hc
  have n2' := img_nf hb hv c1
  have shD := shV c3 (by decide)
  repeat' walk_at "dl"
  refine moved_at ha hx (hc.mono (by decide)) hcn ?_
  repeat' walk_at "dl"
  refine moved_at hb hv (c1.mono (by decide)) n1' ?_
  repeat' walk_at "dl"
  refine moved_at he hw (c2.mono (by decide)) n2' ?_
  repeat' walk_at "dl"
  refine roomD_at m1 mm6 fun r1 _ => ?_
  repeat' walk_at "dl"
  refine roomD_at k1 kk6 fun r2 _ => ?_
  repeat' walk_at "dl"
  refine ⟨a, b, e, c, x, v, w', roomD m r1, roomD k r2, rfl, ha, hb, he, hc, hx, hv, hw, ?_⟩
  repeat' walk_at "dl"
  refine ra_t shD (q := ?_)
  repeat' walk_at "dl"
  refine ra_t shD (q := ?_)
  repeat' walk_at "dl"
  refine ne_sameA rfl ?_
  have d1 := img_ok hb hv hc
  have d2 := img_ok (hb.take 1) hv (hc.take 1)
  have shS := sh3l (shV d1 (by decide)) (shV (n := 80) (xs := []) vt0 (by decide)) (shV d2 (by decide))
  repeat' walk_at "dl"
  refine image_at hb hv (hc.mono (by decide)) ?_
  repeat' walk_at "dl"
  refine image_at mt0 hx (vt0) ?_
  repeat' walk_at "dl"
  rw [cut1, cut1]
  refine image_at (hb.take 1) hv ((hc.take 1).mono (by decide)) ?_
  repeat' walk_at "dl"
  refine ra_l shS (q := ?_)
  repeat' walk_at "dl"
  refine moved_at hb hv (hc.mono (by decide)) hcn ?_
  repeat' walk_at "dl"
  rw [cut1, cut1]
  refine moved_at (hb.take 1) hv ((hc.take 1).mono (by decide)) (fun y hy => hcn y (List.mem_of_mem_take hy)) ?_
  repeat' walk_at "dl"
  refine ra_l shS (q := ?_)
  repeat' walk_at "dl"
  exact eq_sameA rfl hR
end
end E3
end
section
set_option Elab.async false
set_option linter.all false
set_option maxRecDepth 100000
set_option maxHeartbeats 0
namespace E3
open PySem L2 PySem.Spec PyProof.Rows Dl RZ Ev

theorem b8 {x : Int} {n : Nat} (h : x.natAbs < 2 ^ 8 := by decide) (l : 8 ≤ n := by decide) : Bit n x := Bit.mono (n := 8) h l
theorem row2 {a c b : Int} {n : Nat} (ha : a.natAbs < 2 ^ 8 := by decide) (hc : c.natAbs < 2 ^ 8 := by decide) (hb : b.natAbs < 2 ^ 8 := by decide) (l : 8 ≤ n := by decide) : RowOk n [a, c] b := ⟨Nat.le_of_ble_eq_true rfl, fun x hx => by
  simp only [List.mem_cons, List.not_mem_nil, or_false] at hx
  rcases hx with rfl | rfl
  · exact b8 ha l
  · exact b8 hc l, b8 hb l⟩
theorem row1 {a b : Int} {n : Nat} (ha : a.natAbs < 2 ^ 8 := by decide) (hb : b.natAbs < 2 ^ 8 := by decide) (l : 8 ≤ n := by decide) : RowOk n [a] b := ⟨Nat.le_of_ble_eq_true rfl, fun x hx => by
  rw [List.mem_singleton.mp hx]
  exact b8 ha l, b8 hb l⟩
theorem fq8 {p q : Int} {n : Nat} (h : 0 < q := by decide) (hp : p.natAbs < 2 ^ 8 := by decide) (hq : q.natAbs < 2 ^ 8 := by decide) (l : 8 ≤ n := by decide) : Fq n (p, q) := ⟨h, b8 hp l, b8 hq l⟩
theorem rows3 {P : List Int × Int → Prop} {x y z : List Int × Int} (hx : P x) (hy : P y) (hz : P z) : ∀ r, r ∈ [x, y, z] → P r := fun r hr => by
  simp only [List.mem_cons, List.not_mem_nil, or_false] at hr
  rcases hr with rfl | rfl | rfl
  · exact hx
  · exact hy
  · exact hz
theorem rows2 {P : List Int × Int → Prop} {x y : List Int × Int} (hx : P x) (hy : P y) : ∀ r, r ∈ [x, y] → P r := fun r hr => by
  simp only [List.mem_cons, List.not_mem_nil, or_false] at hr
  rcases hr with rfl | rfl
  · exact hx
  · exact hy
abbrev farR : Rows := [([1, 0], 1), ([0 - 2, 4], 6), ([0, 0], 0 - 4)]
local macro_rules | `(tactic| walk_at "dl") => `(tactic| first
  | ((with_reducible refine ew_varE ?_); refine ⟨_, rfl, ?_⟩)
  | ((with_reducible refine ew_int ?_))
  | ((with_reducible refine ew_str ?_))
  | ((with_reducible refine ew_bl ?_))
  | ((with_reducible refine ew_non ?_))
  | ((with_reducible refine ew_op ?_))
  | ((with_reducible refine ew_un ?_))
  | ((with_reducible refine ew_tup ?_))
  | ((with_reducible refine ew_lst ?_))
  | ((with_reducible refine ew_call ?_))
  | ((with_reducible refine ew_isi ?_))
  | ((with_reducible refine ew_cb ?_))
  | ((with_reducible refine ea_nil ?_))
  | ((with_reducible refine ea_rawE ?_); refine ⟨_, rfl, ?_⟩)
  | ((with_reducible refine ea_cons ?_))
  | ((with_reducible refine AllD.nil ?_))
  | ((with_reducible refine AllD.cons ?_))
  | ((with_reducible refine ew_if ?_))
  | ((with_reducible refine ew_isN ?_))
  | ((with_reducible refine ew_sl ?_))
  | ((with_reducible refine eo_none ?_))
  | ((with_reducible refine eo_some ?_))
  | ((with_reducible refine sd_list ?_); refine ⟨_, rfl, ?_⟩)
  | ((with_reducible refine sd_tup ?_); refine ⟨_, rfl, ?_⟩)
  | ((with_reducible refine tw_test ?_))
  | ((with_reducible refine tw_B ?_))
  | ((with_reducible refine tw_not ?_))
  | ((with_reducible refine tw_and ?_))
  | ((with_reducible refine tw_or ?_))
  | ((with_reducible refine ew_andV ?_))
  | ((with_reducible refine ew_orV ?_))
  | ((with_reducible refine ew_notV ?_))
  | ((with_reducible refine sw_seq ?_))
  | ((with_reducible refine sw_if ?_))
  | ((with_reducible refine sw_ret ?_))
  | ((with_reducible refine sw_set ?_))
  | ((with_reducible refine sw_par ?_))
  | ((with_reducible refine sw_nx ?_))
  | ((with_reducible refine od_ix ?_); refine ⟨_, _, _, rfl, rfl, rfl, ?_⟩)
  | ((with_reducible refine od_mulI ?_); refine ⟨_, _, rfl, rfl, ?_, ?_⟩)
  | ((with_reducible refine od_mulNI ?_); refine ⟨_, _, rfl, rfl, ?_, ?_⟩)
  | ((with_reducible refine od_addI ?_); refine ⟨_, _, rfl, rfl, ?_⟩)
  | ((with_reducible refine od_addL ?_); refine ⟨_, _, rfl, rfl, ?_, ?_⟩)
  | ((with_reducible refine od_addT ?_); refine ⟨_, _, rfl, rfl, ?_, ?_⟩)
  | ((with_reducible refine od_I0 ?_); refine ⟨_, _, rfl, rfl, ?_⟩)
  | ((with_reducible refine od_B0 ?_); refine ⟨_, _, rfl, rfl, ?_⟩)
  | ((with_reducible refine od_I ?_); refine ⟨_, _, rfl, rfl, ?_, ?_⟩)
  | ((with_reducible refine ud_I ?_); refine ⟨_, rfl, ?_⟩)
  | ((with_reducible refine od_eqI' ?_))
  | ((with_reducible refine od_neI' ?_))
  | ((with_reducible refine cd_gcd ?_); refine ⟨_, _, rfl, ?_⟩)
  | ((with_reducible refine cd_lcm ?_); refine ⟨_, _, rfl, ?_, ?_, ?_⟩)
  | ((with_reducible refine qAbs ?_); refine ⟨_, rfl, ?_⟩)
  | ((with_reducible refine qInt ?_); refine ⟨_, rfl, ?_⟩)
  | ((with_reducible refine qLen ?_); refine ⟨_, _, rfl, rfl, ?_⟩)
  | ((with_reducible refine qTup ?_); refine ⟨_, _, rfl, rfl, ?_⟩)
  | ((with_reducible refine qLst ?_); refine ⟨_, _, rfl, rfl, ?_⟩)
  | ((with_reducible refine cd_anyT ?_); refine ⟨_, rfl, ?_⟩)
  | ((with_reducible refine cd_sum ?_); refine ⟨_, rfl, ?_⟩)
  | ((with_reducible refine qIntB ?_); refine ⟨_, rfl, ?_⟩)
  | ((with_reducible refine qMax2 ?_); refine ⟨_, _, rfl, ?_⟩)
  | ((with_reducible refine cd_all ?_); refine ⟨_, rfl, ?_⟩)
  | ((with_reducible refine ex_b ?_))
  | ((with_reducible refine ex_i ?_))
  | ((with_reducible refine ex_t ?_))
  | ((with_reducible refine ex_l ?_))
  | ((with_reducible refine ex_2 ?_))
  | ((with_reducible refine pick_atE ?_); refine ⟨by decide, fun r h0 h1 => ?_⟩)
  | ((with_reducible refine half_at ?_ ?_ ?_))
  | ((with_reducible refine half1_at ?_))
  | ((with_reducible refine len_and ?_ ?_); exact Nat.le_of_ble_eq_true rfl)
  | ((with_reducible refine own_and ?_ ?_); rfl))
section
variable {P : Program} {w : World} {K : PySem.W.Frag} {mg : Str → Option Value} {base : Heap}
theorem ok_law {f : Addr} {fd : FuncData} (F : Fun K "law" "law" st_law f fd) (T : Tx mg) (c_shifted : HasG P w K mg base "shifted" 3 ["room", "point"] (spG mShifted)) (c_placed : HasG P w K mg base "placed" 3 ["room", "order"] (spG mPlaced)) (c_boxed : HasG P w K mg base "boxed" 3 ["low", "high"] (spG mBoxed)) (c_l_source : HasG P w K mg base "_law_source" 1 ["script"] (spSource K)) (c_l_of : HasG P w K mg base "_law_of" 2 ["source", "some"] (spG mOf)) (c_l_made_right : HasG P w K mg base "_law_made_right" 5 ["source", "n"] (spG mHalf)) (c_l_two_right : HasG P w K mg base "_law_two_right" 5 ["source", "n"] (spG mHalf)) (c_l_next_right : HasG P w K mg base "_law_next_right" 6 ["source"] (spG mHalf1)) (ND : NoDig base) : FnG P w K mg base 7 f fd ["script"] (spLaw K) := by
  have nd := sc_law.nd
  refine funG F sc_law (fun vs H Q E ⟨a, ns, e, _⟩ => by rw [e]; rfl) fun cdv A outer s H vs Q E hr gd h => ?_
  have hu := hu_of hr
  have hu64 := hr.units
  obtain ⟨a, ns, rfl, hS, hn, hQ⟩ := h
  refine ⟨_, (pss_cons (ps_set (i := 1) nd rfl (by first | exact Or.inl rfl | exact Or.inr rfl) (c_l_source.call hr gd (pa_cons (pv 0) pa_nil)))
      (pss_cons (ps_for PassesOwn.never rfl (pi_range1 (by rfl) T.range (pa_cons pe_int pa_nil)) (pg_name (i := 2) nd rfl (by first | exact Or.inl rfl | exact Or.inr rfl)) (pss_cons (ps_set (i := 3) nd rfl (by first | exact Or.inl rfl | exact Or.inr rfl) (c_l_of.call hr gd (pa_cons (pv 1) (pa_cons (pe_lst (pa_cons pe_int (pa_cons pe_int (pa_cons pe_int (pa_cons pe_int (pa_cons pe_int (pa_cons pe_int pa_nil))))))) pa_nil))))
      (pss_one (ps_if (PW.pt (pw_or (pt_not (pt_val (c_l_made_right.call hr gd (pa_cons (pv 1) (pa_cons (pv 3) pa_nil))))) (pw_or (pt_not (pt_val (c_l_two_right.call hr gd (pa_cons (pv 1) (pa_cons (pv 3) pa_nil))))) (pw_or1 (pt_not (pt_val (c_l_next_right.call hr gd (pa_cons (pv 1) pa_nil)))))))) (pss_one (ps_ret pe_bl)) pss_nil))))
      (pss_cons (ps_set (i := 4) nd rfl (by first | exact Or.inl rfl | exact Or.inr rfl) (pe_tup (pa_cons pe_int (pa_cons (pe_tup (pa_cons (pe_tup (pa_cons (pe_tup (pa_cons pe_int (pa_cons pe_int pa_nil))) (pa_cons pe_int pa_nil))) (pa_cons (pe_tup (pa_cons (pe_tup (pa_cons (pe_op op_sub pe_int pe_int) (pa_cons pe_int pa_nil))) (pa_cons pe_int pa_nil))) (pa_cons (pe_tup (pa_cons (pe_tup (pa_cons pe_int (pa_cons pe_int pa_nil))) (pa_cons (pe_op op_sub pe_int pe_int) pa_nil))) pa_nil)))) pa_nil))))
      (pss_cons (ps_set (i := 5) nd rfl (by first | exact Or.inl rfl | exact Or.inr rfl) (pe_lst (pa_cons (c_shifted.call hr gd (pa_cons (pv 4) (pa_cons (pe_tup (pa_cons (pe_tup (pa_cons pe_int (pa_cons pe_int pa_nil))) (pa_cons (pe_tup (pa_cons pe_int (pa_cons pe_int pa_nil))) pa_nil))) pa_nil))) (pa_cons (c_placed.call hr gd (pa_cons (pv 4) (pa_cons (pe_tup (pa_cons pe_int (pa_cons pe_int pa_nil))) pa_nil))) (pa_cons (c_boxed.call hr gd (pa_cons (pe_tup (pa_cons (pe_tup (pa_cons pe_int (pa_cons pe_int pa_nil))) pa_nil)) (pa_cons (pe_tup (pa_cons (pe_tup (pa_cons pe_int (pa_cons pe_int pa_nil))) pa_nil)) pa_nil))) pa_nil)))))
      (pss_cons (ps_set (i := 6) nd rfl (by first | exact Or.inl rfl | exact Or.inr rfl) (pe_lst (pa_cons (pe_tup (pa_cons pe_int (pa_cons (pe_tup (pa_cons (pe_tup (pa_cons (pe_tup (pa_cons pe_int (pa_cons pe_int pa_nil))) (pa_cons pe_int pa_nil))) (pa_cons (pe_tup (pa_cons (pe_tup (pa_cons (pe_op op_sub pe_int pe_int) (pa_cons pe_int pa_nil))) (pa_cons pe_int pa_nil))) (pa_cons (pe_tup (pa_cons (pe_tup (pa_cons pe_int (pa_cons pe_int pa_nil))) (pa_cons (pe_op op_sub pe_int pe_int) pa_nil))) pa_nil)))) pa_nil))) pa_nil)))
      (pss_cons (ps_set (i := 6) nd rfl (by first | exact Or.inl rfl | exact Or.inr rfl) (pe_op (kAdd (K := K) rfl) (pv 6) (pe_lst (pa_cons (pe_tup (pa_cons pe_int (pa_cons (pe_tup (pa_cons (pe_tup (pa_cons (pe_tup (pa_cons pe_int (pa_cons pe_int pa_nil))) (pa_cons pe_int pa_nil))) (pa_cons (pe_tup (pa_cons (pe_tup (pa_cons pe_int (pa_cons (pe_op op_sub pe_int pe_int) pa_nil))) (pa_cons pe_int pa_nil))) (pa_cons (pe_tup (pa_cons (pe_tup (pa_cons pe_int (pa_cons pe_int pa_nil))) (pa_cons (pe_op op_sub pe_int pe_int) pa_nil))) pa_nil)))) pa_nil))) (pa_cons (pe_tup (pa_cons pe_int (pa_cons (pe_tup (pa_cons (pe_tup (pa_cons (pe_tup (pa_cons pe_int pa_nil)) (pa_cons pe_int pa_nil))) (pa_cons (pe_tup (pa_cons (pe_tup (pa_cons (pe_op op_sub pe_int pe_int) pa_nil)) (pa_cons (pe_op op_sub pe_int pe_int) pa_nil))) pa_nil))) pa_nil))) pa_nil)))))
      (pss_one (ps_ret (pe_cmpR (kEq (K := K) rfl hu64) (pe_callB (kReprA (K := K) rfl ND gd hu64) (by rfl) T.repr (by decide +kernel) (pa_cons (pv 5) pa_nil)) (pe_callB (kReprA (K := K) rfl ND gd hu64) (by rfl) T.repr (by decide +kernel) (pa_cons (pv 6) pa_nil)) (nomark _)))))))))), ?_⟩
  refine law_start (n := 5) hS hn hQ fun p l => ?_
  show SW (Fsrc p l) [.non, .raw (.ref p), .non, .non, .non, .non, .non] _ _
  refine sw_seq (sw_for (it_range1 ?_))
  repeat' walk_at "dl"
  refine ⟨_, rfl, by decide, by decide, ?_⟩
  refine ⟨fun i e => ∃ z2 z3, e = [.non, .raw (.ref p), z2, z3, .non, .non, .non], ⟨_, _, rfl⟩, ?_, ?_⟩
  · rintro i d e hd ⟨z2, z3, rfl⟩
    refine gw_name ?_
    repeat' walk_at "dl"
    refine of_at (by simp) (by simp) fun d hd => ?_
    obtain ⟨n, rfl, n0, n1⟩ : ∃ n : Int, d = .int n ∧ 0 ≤ n ∧ n ≤ 6 := by
      simp only [List.mem_cons, List.not_mem_nil, or_false] at hd
      rcases hd with e | e | e | e | e | e <;> exact ⟨_, e, by decide, by decide⟩
    repeat' walk_at "dl"
    any_goals omega
    refine iteF ?_
    repeat' walk_at "dl"
    any_goals omega
    refine iteF ?_
    repeat' walk_at "dl"
    refine iteF ?_
    repeat' walk_at "dl"
    exact ⟨_, _, rfl⟩
  · rintro e ⟨z2, z3, rfl⟩
    have kf : RmK 200 farR := ⟨by decide, rows3 row2 row2 row2⟩
    have pf : PtOk [(1, 2), (0, 1)] := ⟨by decide, fun x hx => by
      simp only [List.mem_cons, List.not_mem_nil, or_false] at hx
      rcases hx with rfl | rfl
      · exact fq8
      · exact fq8⟩
    have pl1 : PtOk [(1, 1)] := ⟨by decide, fun x hx => by rw [List.mem_singleton.mp hx]; exact fq8⟩
    have ph1 : PtOk [(1, 2)] := ⟨by decide, fun x hx => by rw [List.mem_singleton.mp hx]; exact fq8⟩
    repeat' walk_at "dl"
    refine ⟨2, farR, [(1, 2), (0, 1)], rfl, kf, pf, ?_⟩
    repeat' walk_at "dl"
    refine ⟨2, farR, [1, 0], rfl, kf, by decide, by decide, ?_⟩
    repeat' walk_at "dl"
    refine ⟨[(1, 1)], [(1, 2)], rfl, rfl, by decide, pl1, ph1, ?_⟩
    rw [show shiftR farR [(1, 2), (0, 1)] = [([2, 0], 3), ([0 - 2, 4], 5), ([0, 0], 0 - 1)] by decide +kernel, show placeR farR [1, 0] = [([0, 1], 1), ([2, 0 - 1], 3), ([0, 0], 0 - 1)] by decide +kernel, show boxR [(1, 1)] [(1, 2)] = [([2], 1), ([0 - 1], 0 - 1)] by decide +kernel]
    have s1 := shK_room (n := 2) (rows := [([2, 0], 3), ([0 - 2, 4], 5), ([0, 0], 0 - 1)]) b8 (by decide) (rows3 row2 row2 row2)
    have s2 := shK_room (n := 2) (rows := [([0, 1], 1), ([2, 0 - 1], 3), ([0, 0], 0 - 1)]) b8 (by decide) (rows3 row2 row2 row2)
    have s3 := shK_room (n := 1) (rows := [([2], 1), ([0 - 1], 0 - 1)]) b8 (by decide) (rows2 row1 row1)
    have sh := sh3l s1 s2 s3
    repeat' walk_at "dl"
    any_goals exact Nat.le_of_ble_eq_true rfl
    refine ra_l sh (q := ?_)
    repeat' walk_at "dl"
    refine ra_l sh (q := ?_)
    repeat' walk_at "dl"
    exact eq_sameA rfl rfl
end
end E3
end
section
set_option Elab.async false
set_option linter.all false
set_option maxRecDepth 100000
set_option maxHeartbeats 0
namespace E3
open PySem L2 PySem.Spec PyProof.Rows Dl RZ Ev
theorem all_mk {w : World} {K : PySem.W.Frag} {h : Heap} {mg : Str → Option Value} {fa f_fraction_of f_plus f_times f_total f_dot f_divisor f_whole f_unit f_plain_row f_first_broken f_is_in f_joined f_product f_shifted f_scaled f_mirrored f_placed f_boxed f_open_room f_image_of f_next_of f_l_source f_l_pick f_l_of f_l_mixed f_l_least f_l_plus f_l_times f_l_great f_l_number f_l_fraction f_l_divisor f_l_plain f_l_reach f_l_row_of f_l_is_in f_l_room f_l_point f_l_shifted f_l_scaled f_l_placed f_l_boxed f_l_made_right f_l_two_right f_l_moved f_l_next_right f_law : Addr} (X : K.In h) (G : h.Ns mainGlobals mg) (hfa : mg "law" = some (.ref fa))
    {od_fraction_of an_fraction_of : Option Addr} {sl_fraction_of : Array (Option Value)} {oc_fraction_of kV_fraction_of dc_fraction_of pm_fraction_of cd_fraction_of ct_fraction_of : Value} (a_fraction_of : PySem.W.nsIn K mainGlobals "fraction_of" = some (some (.ref f_fraction_of)))
    (l_fraction_of : K.lookup f_fraction_of = some ⟨oc_fraction_of, od_fraction_of, .func (PySem.W.fnOf "fraction_of" "fraction_of" (defArgs st_fraction_of) (defBody st_fraction_of) (defScope st_fraction_of) .none kV_fraction_of dc_fraction_of pm_fraction_of an_fraction_of cd_fraction_of ct_fraction_of), sl_fraction_of⟩)
    (c_fraction_of : PySem.W.codeIn K cd_fraction_of "fraction_of" = true) (k_fraction_of : PySem.W.keepIn K (.ref f_fraction_of) = true)
    {od_plus an_plus : Option Addr} {sl_plus : Array (Option Value)} {oc_plus kV_plus dc_plus pm_plus cd_plus ct_plus : Value} (a_plus : PySem.W.nsIn K mainGlobals "plus" = some (some (.ref f_plus)))
    (l_plus : K.lookup f_plus = some ⟨oc_plus, od_plus, .func (PySem.W.fnOf "plus" "plus" (defArgs st_plus) (defBody st_plus) (defScope st_plus) .none kV_plus dc_plus pm_plus an_plus cd_plus ct_plus), sl_plus⟩)
    (c_plus : PySem.W.codeIn K cd_plus "plus" = true) (k_plus : PySem.W.keepIn K (.ref f_plus) = true)
    {od_times an_times : Option Addr} {sl_times : Array (Option Value)} {oc_times kV_times dc_times pm_times cd_times ct_times : Value} (a_times : PySem.W.nsIn K mainGlobals "times" = some (some (.ref f_times)))
    (l_times : K.lookup f_times = some ⟨oc_times, od_times, .func (PySem.W.fnOf "times" "times" (defArgs st_times) (defBody st_times) (defScope st_times) .none kV_times dc_times pm_times an_times cd_times ct_times), sl_times⟩)
    (c_times : PySem.W.codeIn K cd_times "times" = true) (k_times : PySem.W.keepIn K (.ref f_times) = true)
    {od_total an_total : Option Addr} {sl_total : Array (Option Value)} {oc_total kV_total dc_total pm_total cd_total ct_total : Value} (a_total : PySem.W.nsIn K mainGlobals "total" = some (some (.ref f_total)))
    (l_total : K.lookup f_total = some ⟨oc_total, od_total, .func (PySem.W.fnOf "total" "total" (defArgs st_total) (defBody st_total) (defScope st_total) .none kV_total dc_total pm_total an_total cd_total ct_total), sl_total⟩)
    (c_total : PySem.W.codeIn K cd_total "total" = true) (k_total : PySem.W.keepIn K (.ref f_total) = true)
    {od_dot an_dot : Option Addr} {sl_dot : Array (Option Value)} {oc_dot kV_dot dc_dot pm_dot cd_dot ct_dot : Value} (a_dot : PySem.W.nsIn K mainGlobals "dot" = some (some (.ref f_dot)))
    (l_dot : K.lookup f_dot = some ⟨oc_dot, od_dot, .func (PySem.W.fnOf "dot" "dot" (defArgs st_dot) (defBody st_dot) (defScope st_dot) .none kV_dot dc_dot pm_dot an_dot cd_dot ct_dot), sl_dot⟩)
    (c_dot : PySem.W.codeIn K cd_dot "dot" = true) (k_dot : PySem.W.keepIn K (.ref f_dot) = true)
    {od_divisor an_divisor : Option Addr} {sl_divisor : Array (Option Value)} {oc_divisor kV_divisor dc_divisor pm_divisor cd_divisor ct_divisor : Value} (a_divisor : PySem.W.nsIn K mainGlobals "divisor" = some (some (.ref f_divisor)))
    (l_divisor : K.lookup f_divisor = some ⟨oc_divisor, od_divisor, .func (PySem.W.fnOf "divisor" "divisor" (defArgs st_divisor) (defBody st_divisor) (defScope st_divisor) .none kV_divisor dc_divisor pm_divisor an_divisor cd_divisor ct_divisor), sl_divisor⟩)
    (c_divisor : PySem.W.codeIn K cd_divisor "divisor" = true) (k_divisor : PySem.W.keepIn K (.ref f_divisor) = true)
    {od_whole an_whole : Option Addr} {sl_whole : Array (Option Value)} {oc_whole kV_whole dc_whole pm_whole cd_whole ct_whole : Value} (a_whole : PySem.W.nsIn K mainGlobals "whole" = some (some (.ref f_whole)))
    (l_whole : K.lookup f_whole = some ⟨oc_whole, od_whole, .func (PySem.W.fnOf "whole" "whole" (defArgs st_whole) (defBody st_whole) (defScope st_whole) .none kV_whole dc_whole pm_whole an_whole cd_whole ct_whole), sl_whole⟩)
    (c_whole : PySem.W.codeIn K cd_whole "whole" = true) (k_whole : PySem.W.keepIn K (.ref f_whole) = true)
    {od_unit an_unit : Option Addr} {sl_unit : Array (Option Value)} {oc_unit kV_unit dc_unit pm_unit cd_unit ct_unit : Value} (a_unit : PySem.W.nsIn K mainGlobals "unit" = some (some (.ref f_unit)))
    (l_unit : K.lookup f_unit = some ⟨oc_unit, od_unit, .func (PySem.W.fnOf "unit" "unit" (defArgs st_unit) (defBody st_unit) (defScope st_unit) .none kV_unit dc_unit pm_unit an_unit cd_unit ct_unit), sl_unit⟩)
    (c_unit : PySem.W.codeIn K cd_unit "unit" = true) (k_unit : PySem.W.keepIn K (.ref f_unit) = true)
    {od_plain_row an_plain_row : Option Addr} {sl_plain_row : Array (Option Value)} {oc_plain_row kV_plain_row dc_plain_row pm_plain_row cd_plain_row ct_plain_row : Value} (a_plain_row : PySem.W.nsIn K mainGlobals "plain_row" = some (some (.ref f_plain_row)))
    (l_plain_row : K.lookup f_plain_row = some ⟨oc_plain_row, od_plain_row, .func (PySem.W.fnOf "plain_row" "plain_row" (defArgs st_plain_row) (defBody st_plain_row) (defScope st_plain_row) .none kV_plain_row dc_plain_row pm_plain_row an_plain_row cd_plain_row ct_plain_row), sl_plain_row⟩)
    (c_plain_row : PySem.W.codeIn K cd_plain_row "plain_row" = true) (k_plain_row : PySem.W.keepIn K (.ref f_plain_row) = true)
    {od_first_broken an_first_broken : Option Addr} {sl_first_broken : Array (Option Value)} {oc_first_broken kV_first_broken dc_first_broken pm_first_broken cd_first_broken ct_first_broken : Value} (a_first_broken : PySem.W.nsIn K mainGlobals "first_broken" = some (some (.ref f_first_broken)))
    (l_first_broken : K.lookup f_first_broken = some ⟨oc_first_broken, od_first_broken, .func (PySem.W.fnOf "first_broken" "first_broken" (defArgs st_first_broken) (defBody st_first_broken) (defScope st_first_broken) .none kV_first_broken dc_first_broken pm_first_broken an_first_broken cd_first_broken ct_first_broken), sl_first_broken⟩)
    (c_first_broken : PySem.W.codeIn K cd_first_broken "first_broken" = true) (k_first_broken : PySem.W.keepIn K (.ref f_first_broken) = true)
    {od_is_in an_is_in : Option Addr} {sl_is_in : Array (Option Value)} {oc_is_in kV_is_in dc_is_in pm_is_in cd_is_in ct_is_in : Value} (a_is_in : PySem.W.nsIn K mainGlobals "is_in" = some (some (.ref f_is_in)))
    (l_is_in : K.lookup f_is_in = some ⟨oc_is_in, od_is_in, .func (PySem.W.fnOf "is_in" "is_in" (defArgs st_is_in) (defBody st_is_in) (defScope st_is_in) .none kV_is_in dc_is_in pm_is_in an_is_in cd_is_in ct_is_in), sl_is_in⟩)
    (c_is_in : PySem.W.codeIn K cd_is_in "is_in" = true) (k_is_in : PySem.W.keepIn K (.ref f_is_in) = true)
    {od_joined an_joined : Option Addr} {sl_joined : Array (Option Value)} {oc_joined kV_joined dc_joined pm_joined cd_joined ct_joined : Value} (a_joined : PySem.W.nsIn K mainGlobals "joined" = some (some (.ref f_joined)))
    (l_joined : K.lookup f_joined = some ⟨oc_joined, od_joined, .func (PySem.W.fnOf "joined" "joined" (defArgs st_joined) (defBody st_joined) (defScope st_joined) .none kV_joined dc_joined pm_joined an_joined cd_joined ct_joined), sl_joined⟩)
    (c_joined : PySem.W.codeIn K cd_joined "joined" = true) (k_joined : PySem.W.keepIn K (.ref f_joined) = true)
    {od_product an_product : Option Addr} {sl_product : Array (Option Value)} {oc_product kV_product dc_product pm_product cd_product ct_product : Value} (a_product : PySem.W.nsIn K mainGlobals "product" = some (some (.ref f_product)))
    (l_product : K.lookup f_product = some ⟨oc_product, od_product, .func (PySem.W.fnOf "product" "product" (defArgs st_product) (defBody st_product) (defScope st_product) .none kV_product dc_product pm_product an_product cd_product ct_product), sl_product⟩)
    (c_product : PySem.W.codeIn K cd_product "product" = true) (k_product : PySem.W.keepIn K (.ref f_product) = true)
    {od_shifted an_shifted : Option Addr} {sl_shifted : Array (Option Value)} {oc_shifted kV_shifted dc_shifted pm_shifted cd_shifted ct_shifted : Value} (a_shifted : PySem.W.nsIn K mainGlobals "shifted" = some (some (.ref f_shifted)))
    (l_shifted : K.lookup f_shifted = some ⟨oc_shifted, od_shifted, .func (PySem.W.fnOf "shifted" "shifted" (defArgs st_shifted) (defBody st_shifted) (defScope st_shifted) .none kV_shifted dc_shifted pm_shifted an_shifted cd_shifted ct_shifted), sl_shifted⟩)
    (c_shifted : PySem.W.codeIn K cd_shifted "shifted" = true) (k_shifted : PySem.W.keepIn K (.ref f_shifted) = true)
    {od_scaled an_scaled : Option Addr} {sl_scaled : Array (Option Value)} {oc_scaled kV_scaled dc_scaled pm_scaled cd_scaled ct_scaled : Value} (a_scaled : PySem.W.nsIn K mainGlobals "scaled" = some (some (.ref f_scaled)))
    (l_scaled : K.lookup f_scaled = some ⟨oc_scaled, od_scaled, .func (PySem.W.fnOf "scaled" "scaled" (defArgs st_scaled) (defBody st_scaled) (defScope st_scaled) .none kV_scaled dc_scaled pm_scaled an_scaled cd_scaled ct_scaled), sl_scaled⟩)
    (c_scaled : PySem.W.codeIn K cd_scaled "scaled" = true) (k_scaled : PySem.W.keepIn K (.ref f_scaled) = true)
    {od_mirrored an_mirrored : Option Addr} {sl_mirrored : Array (Option Value)} {oc_mirrored kV_mirrored dc_mirrored pm_mirrored cd_mirrored ct_mirrored : Value} (a_mirrored : PySem.W.nsIn K mainGlobals "mirrored" = some (some (.ref f_mirrored)))
    (l_mirrored : K.lookup f_mirrored = some ⟨oc_mirrored, od_mirrored, .func (PySem.W.fnOf "mirrored" "mirrored" (defArgs st_mirrored) (defBody st_mirrored) (defScope st_mirrored) .none kV_mirrored dc_mirrored pm_mirrored an_mirrored cd_mirrored ct_mirrored), sl_mirrored⟩)
    (c_mirrored : PySem.W.codeIn K cd_mirrored "mirrored" = true) (k_mirrored : PySem.W.keepIn K (.ref f_mirrored) = true)
    {od_placed an_placed : Option Addr} {sl_placed : Array (Option Value)} {oc_placed kV_placed dc_placed pm_placed cd_placed ct_placed : Value} (a_placed : PySem.W.nsIn K mainGlobals "placed" = some (some (.ref f_placed)))
    (l_placed : K.lookup f_placed = some ⟨oc_placed, od_placed, .func (PySem.W.fnOf "placed" "placed" (defArgs st_placed) (defBody st_placed) (defScope st_placed) .none kV_placed dc_placed pm_placed an_placed cd_placed ct_placed), sl_placed⟩)
    (c_placed : PySem.W.codeIn K cd_placed "placed" = true) (k_placed : PySem.W.keepIn K (.ref f_placed) = true)
    {od_boxed an_boxed : Option Addr} {sl_boxed : Array (Option Value)} {oc_boxed kV_boxed dc_boxed pm_boxed cd_boxed ct_boxed : Value} (a_boxed : PySem.W.nsIn K mainGlobals "boxed" = some (some (.ref f_boxed)))
    (l_boxed : K.lookup f_boxed = some ⟨oc_boxed, od_boxed, .func (PySem.W.fnOf "boxed" "boxed" (defArgs st_boxed) (defBody st_boxed) (defScope st_boxed) .none kV_boxed dc_boxed pm_boxed an_boxed cd_boxed ct_boxed), sl_boxed⟩)
    (c_boxed : PySem.W.codeIn K cd_boxed "boxed" = true) (k_boxed : PySem.W.keepIn K (.ref f_boxed) = true)
    {od_open_room an_open_room : Option Addr} {sl_open_room : Array (Option Value)} {oc_open_room kV_open_room dc_open_room pm_open_room cd_open_room ct_open_room : Value} (a_open_room : PySem.W.nsIn K mainGlobals "open_room" = some (some (.ref f_open_room)))
    (l_open_room : K.lookup f_open_room = some ⟨oc_open_room, od_open_room, .func (PySem.W.fnOf "open_room" "open_room" (defArgs st_open_room) (defBody st_open_room) (defScope st_open_room) .none kV_open_room dc_open_room pm_open_room an_open_room cd_open_room ct_open_room), sl_open_room⟩)
    (c_open_room : PySem.W.codeIn K cd_open_room "open_room" = true) (k_open_room : PySem.W.keepIn K (.ref f_open_room) = true)
    {od_image_of an_image_of : Option Addr} {sl_image_of : Array (Option Value)} {oc_image_of kV_image_of dc_image_of pm_image_of cd_image_of ct_image_of : Value} (a_image_of : PySem.W.nsIn K mainGlobals "image_of" = some (some (.ref f_image_of)))
    (l_image_of : K.lookup f_image_of = some ⟨oc_image_of, od_image_of, .func (PySem.W.fnOf "image_of" "image_of" (defArgs st_image_of) (defBody st_image_of) (defScope st_image_of) .none kV_image_of dc_image_of pm_image_of an_image_of cd_image_of ct_image_of), sl_image_of⟩)
    (c_image_of : PySem.W.codeIn K cd_image_of "image_of" = true) (k_image_of : PySem.W.keepIn K (.ref f_image_of) = true)
    {od_next_of an_next_of : Option Addr} {sl_next_of : Array (Option Value)} {oc_next_of kV_next_of dc_next_of pm_next_of cd_next_of ct_next_of : Value} (a_next_of : PySem.W.nsIn K mainGlobals "next_of" = some (some (.ref f_next_of)))
    (l_next_of : K.lookup f_next_of = some ⟨oc_next_of, od_next_of, .func (PySem.W.fnOf "next_of" "next_of" (defArgs st_next_of) (defBody st_next_of) (defScope st_next_of) .none kV_next_of dc_next_of pm_next_of an_next_of cd_next_of ct_next_of), sl_next_of⟩)
    (c_next_of : PySem.W.codeIn K cd_next_of "next_of" = true) (k_next_of : PySem.W.keepIn K (.ref f_next_of) = true)
    {od_l_source an_l_source : Option Addr} {sl_l_source : Array (Option Value)} {oc_l_source kV_l_source dc_l_source pm_l_source cd_l_source ct_l_source : Value} (a_l_source : PySem.W.nsIn K mainGlobals "_law_source" = some (some (.ref f_l_source)))
    (l_l_source : K.lookup f_l_source = some ⟨oc_l_source, od_l_source, .func (PySem.W.fnOf "_law_source" "_law_source" (defArgs st_l_source) (defBody st_l_source) (defScope st_l_source) .none kV_l_source dc_l_source pm_l_source an_l_source cd_l_source ct_l_source), sl_l_source⟩)
    (c_l_source : PySem.W.codeIn K cd_l_source "_law_source" = true) (k_l_source : PySem.W.keepIn K (.ref f_l_source) = true)
    {od_l_pick an_l_pick : Option Addr} {sl_l_pick : Array (Option Value)} {oc_l_pick kV_l_pick dc_l_pick pm_l_pick cd_l_pick ct_l_pick : Value} (a_l_pick : PySem.W.nsIn K mainGlobals "_law_pick" = some (some (.ref f_l_pick)))
    (l_l_pick : K.lookup f_l_pick = some ⟨oc_l_pick, od_l_pick, .func (PySem.W.fnOf "_law_pick" "_law_pick" (defArgs st_l_pick) (defBody st_l_pick) (defScope st_l_pick) .none kV_l_pick dc_l_pick pm_l_pick an_l_pick cd_l_pick ct_l_pick), sl_l_pick⟩)
    (c_l_pick : PySem.W.codeIn K cd_l_pick "_law_pick" = true) (k_l_pick : PySem.W.keepIn K (.ref f_l_pick) = true)
    {od_l_of an_l_of : Option Addr} {sl_l_of : Array (Option Value)} {oc_l_of kV_l_of dc_l_of pm_l_of cd_l_of ct_l_of : Value} (a_l_of : PySem.W.nsIn K mainGlobals "_law_of" = some (some (.ref f_l_of)))
    (l_l_of : K.lookup f_l_of = some ⟨oc_l_of, od_l_of, .func (PySem.W.fnOf "_law_of" "_law_of" (defArgs st_l_of) (defBody st_l_of) (defScope st_l_of) .none kV_l_of dc_l_of pm_l_of an_l_of cd_l_of ct_l_of), sl_l_of⟩)
    (c_l_of : PySem.W.codeIn K cd_l_of "_law_of" = true) (k_l_of : PySem.W.keepIn K (.ref f_l_of) = true)
    {od_l_mixed an_l_mixed : Option Addr} {sl_l_mixed : Array (Option Value)} {oc_l_mixed kV_l_mixed dc_l_mixed pm_l_mixed cd_l_mixed ct_l_mixed : Value} (a_l_mixed : PySem.W.nsIn K mainGlobals "_law_mixed" = some (some (.ref f_l_mixed)))
    (l_l_mixed : K.lookup f_l_mixed = some ⟨oc_l_mixed, od_l_mixed, .func (PySem.W.fnOf "_law_mixed" "_law_mixed" (defArgs st_l_mixed) (defBody st_l_mixed) (defScope st_l_mixed) .none kV_l_mixed dc_l_mixed pm_l_mixed an_l_mixed cd_l_mixed ct_l_mixed), sl_l_mixed⟩)
    (c_l_mixed : PySem.W.codeIn K cd_l_mixed "_law_mixed" = true) (k_l_mixed : PySem.W.keepIn K (.ref f_l_mixed) = true)
    {od_l_least an_l_least : Option Addr} {sl_l_least : Array (Option Value)} {oc_l_least kV_l_least dc_l_least pm_l_least cd_l_least ct_l_least : Value} (a_l_least : PySem.W.nsIn K mainGlobals "_law_least" = some (some (.ref f_l_least)))
    (l_l_least : K.lookup f_l_least = some ⟨oc_l_least, od_l_least, .func (PySem.W.fnOf "_law_least" "_law_least" (defArgs st_l_least) (defBody st_l_least) (defScope st_l_least) .none kV_l_least dc_l_least pm_l_least an_l_least cd_l_least ct_l_least), sl_l_least⟩)
    (c_l_least : PySem.W.codeIn K cd_l_least "_law_least" = true) (k_l_least : PySem.W.keepIn K (.ref f_l_least) = true)
    {od_l_plus an_l_plus : Option Addr} {sl_l_plus : Array (Option Value)} {oc_l_plus kV_l_plus dc_l_plus pm_l_plus cd_l_plus ct_l_plus : Value} (a_l_plus : PySem.W.nsIn K mainGlobals "_law_plus" = some (some (.ref f_l_plus)))
    (l_l_plus : K.lookup f_l_plus = some ⟨oc_l_plus, od_l_plus, .func (PySem.W.fnOf "_law_plus" "_law_plus" (defArgs st_l_plus) (defBody st_l_plus) (defScope st_l_plus) .none kV_l_plus dc_l_plus pm_l_plus an_l_plus cd_l_plus ct_l_plus), sl_l_plus⟩)
    (c_l_plus : PySem.W.codeIn K cd_l_plus "_law_plus" = true) (k_l_plus : PySem.W.keepIn K (.ref f_l_plus) = true)
    {od_l_times an_l_times : Option Addr} {sl_l_times : Array (Option Value)} {oc_l_times kV_l_times dc_l_times pm_l_times cd_l_times ct_l_times : Value} (a_l_times : PySem.W.nsIn K mainGlobals "_law_times" = some (some (.ref f_l_times)))
    (l_l_times : K.lookup f_l_times = some ⟨oc_l_times, od_l_times, .func (PySem.W.fnOf "_law_times" "_law_times" (defArgs st_l_times) (defBody st_l_times) (defScope st_l_times) .none kV_l_times dc_l_times pm_l_times an_l_times cd_l_times ct_l_times), sl_l_times⟩)
    (c_l_times : PySem.W.codeIn K cd_l_times "_law_times" = true) (k_l_times : PySem.W.keepIn K (.ref f_l_times) = true)
    {od_l_great an_l_great : Option Addr} {sl_l_great : Array (Option Value)} {oc_l_great kV_l_great dc_l_great pm_l_great cd_l_great ct_l_great : Value} (a_l_great : PySem.W.nsIn K mainGlobals "_law_great" = some (some (.ref f_l_great)))
    (l_l_great : K.lookup f_l_great = some ⟨oc_l_great, od_l_great, .func (PySem.W.fnOf "_law_great" "_law_great" (defArgs st_l_great) (defBody st_l_great) (defScope st_l_great) .none kV_l_great dc_l_great pm_l_great an_l_great cd_l_great ct_l_great), sl_l_great⟩)
    (c_l_great : PySem.W.codeIn K cd_l_great "_law_great" = true) (k_l_great : PySem.W.keepIn K (.ref f_l_great) = true)
    {od_l_number an_l_number : Option Addr} {sl_l_number : Array (Option Value)} {oc_l_number kV_l_number dc_l_number pm_l_number cd_l_number ct_l_number : Value} (a_l_number : PySem.W.nsIn K mainGlobals "_law_number" = some (some (.ref f_l_number)))
    (l_l_number : K.lookup f_l_number = some ⟨oc_l_number, od_l_number, .func (PySem.W.fnOf "_law_number" "_law_number" (defArgs st_l_number) (defBody st_l_number) (defScope st_l_number) .none kV_l_number dc_l_number pm_l_number an_l_number cd_l_number ct_l_number), sl_l_number⟩)
    (c_l_number : PySem.W.codeIn K cd_l_number "_law_number" = true) (k_l_number : PySem.W.keepIn K (.ref f_l_number) = true)
    {od_l_fraction an_l_fraction : Option Addr} {sl_l_fraction : Array (Option Value)} {oc_l_fraction kV_l_fraction dc_l_fraction pm_l_fraction cd_l_fraction ct_l_fraction : Value} (a_l_fraction : PySem.W.nsIn K mainGlobals "_law_fraction" = some (some (.ref f_l_fraction)))
    (l_l_fraction : K.lookup f_l_fraction = some ⟨oc_l_fraction, od_l_fraction, .func (PySem.W.fnOf "_law_fraction" "_law_fraction" (defArgs st_l_fraction) (defBody st_l_fraction) (defScope st_l_fraction) .none kV_l_fraction dc_l_fraction pm_l_fraction an_l_fraction cd_l_fraction ct_l_fraction), sl_l_fraction⟩)
    (c_l_fraction : PySem.W.codeIn K cd_l_fraction "_law_fraction" = true) (k_l_fraction : PySem.W.keepIn K (.ref f_l_fraction) = true)
    {od_l_divisor an_l_divisor : Option Addr} {sl_l_divisor : Array (Option Value)} {oc_l_divisor kV_l_divisor dc_l_divisor pm_l_divisor cd_l_divisor ct_l_divisor : Value} (a_l_divisor : PySem.W.nsIn K mainGlobals "_law_divisor" = some (some (.ref f_l_divisor)))
    (l_l_divisor : K.lookup f_l_divisor = some ⟨oc_l_divisor, od_l_divisor, .func (PySem.W.fnOf "_law_divisor" "_law_divisor" (defArgs st_l_divisor) (defBody st_l_divisor) (defScope st_l_divisor) .none kV_l_divisor dc_l_divisor pm_l_divisor an_l_divisor cd_l_divisor ct_l_divisor), sl_l_divisor⟩)
    (c_l_divisor : PySem.W.codeIn K cd_l_divisor "_law_divisor" = true) (k_l_divisor : PySem.W.keepIn K (.ref f_l_divisor) = true)
    {od_l_plain an_l_plain : Option Addr} {sl_l_plain : Array (Option Value)} {oc_l_plain kV_l_plain dc_l_plain pm_l_plain cd_l_plain ct_l_plain : Value} (a_l_plain : PySem.W.nsIn K mainGlobals "_law_plain" = some (some (.ref f_l_plain)))
    (l_l_plain : K.lookup f_l_plain = some ⟨oc_l_plain, od_l_plain, .func (PySem.W.fnOf "_law_plain" "_law_plain" (defArgs st_l_plain) (defBody st_l_plain) (defScope st_l_plain) .none kV_l_plain dc_l_plain pm_l_plain an_l_plain cd_l_plain ct_l_plain), sl_l_plain⟩)
    (c_l_plain : PySem.W.codeIn K cd_l_plain "_law_plain" = true) (k_l_plain : PySem.W.keepIn K (.ref f_l_plain) = true)
    {od_l_reach an_l_reach : Option Addr} {sl_l_reach : Array (Option Value)} {oc_l_reach kV_l_reach dc_l_reach pm_l_reach cd_l_reach ct_l_reach : Value} (a_l_reach : PySem.W.nsIn K mainGlobals "_law_reach" = some (some (.ref f_l_reach)))
    (l_l_reach : K.lookup f_l_reach = some ⟨oc_l_reach, od_l_reach, .func (PySem.W.fnOf "_law_reach" "_law_reach" (defArgs st_l_reach) (defBody st_l_reach) (defScope st_l_reach) .none kV_l_reach dc_l_reach pm_l_reach an_l_reach cd_l_reach ct_l_reach), sl_l_reach⟩)
    (c_l_reach : PySem.W.codeIn K cd_l_reach "_law_reach" = true) (k_l_reach : PySem.W.keepIn K (.ref f_l_reach) = true)
    {od_l_row_of an_l_row_of : Option Addr} {sl_l_row_of : Array (Option Value)} {oc_l_row_of kV_l_row_of dc_l_row_of pm_l_row_of cd_l_row_of ct_l_row_of : Value} (a_l_row_of : PySem.W.nsIn K mainGlobals "_law_row_of" = some (some (.ref f_l_row_of)))
    (l_l_row_of : K.lookup f_l_row_of = some ⟨oc_l_row_of, od_l_row_of, .func (PySem.W.fnOf "_law_row_of" "_law_row_of" (defArgs st_l_row_of) (defBody st_l_row_of) (defScope st_l_row_of) .none kV_l_row_of dc_l_row_of pm_l_row_of an_l_row_of cd_l_row_of ct_l_row_of), sl_l_row_of⟩)
    (c_l_row_of : PySem.W.codeIn K cd_l_row_of "_law_row_of" = true) (k_l_row_of : PySem.W.keepIn K (.ref f_l_row_of) = true)
    {od_l_is_in an_l_is_in : Option Addr} {sl_l_is_in : Array (Option Value)} {oc_l_is_in kV_l_is_in dc_l_is_in pm_l_is_in cd_l_is_in ct_l_is_in : Value} (a_l_is_in : PySem.W.nsIn K mainGlobals "_law_is_in" = some (some (.ref f_l_is_in)))
    (l_l_is_in : K.lookup f_l_is_in = some ⟨oc_l_is_in, od_l_is_in, .func (PySem.W.fnOf "_law_is_in" "_law_is_in" (defArgs st_l_is_in) (defBody st_l_is_in) (defScope st_l_is_in) .none kV_l_is_in dc_l_is_in pm_l_is_in an_l_is_in cd_l_is_in ct_l_is_in), sl_l_is_in⟩)
    (c_l_is_in : PySem.W.codeIn K cd_l_is_in "_law_is_in" = true) (k_l_is_in : PySem.W.keepIn K (.ref f_l_is_in) = true)
    {od_l_room an_l_room : Option Addr} {sl_l_room : Array (Option Value)} {oc_l_room kV_l_room dc_l_room pm_l_room cd_l_room ct_l_room : Value} (a_l_room : PySem.W.nsIn K mainGlobals "_law_room" = some (some (.ref f_l_room)))
    (l_l_room : K.lookup f_l_room = some ⟨oc_l_room, od_l_room, .func (PySem.W.fnOf "_law_room" "_law_room" (defArgs st_l_room) (defBody st_l_room) (defScope st_l_room) .none kV_l_room dc_l_room pm_l_room an_l_room cd_l_room ct_l_room), sl_l_room⟩)
    (c_l_room : PySem.W.codeIn K cd_l_room "_law_room" = true) (k_l_room : PySem.W.keepIn K (.ref f_l_room) = true)
    {od_l_point an_l_point : Option Addr} {sl_l_point : Array (Option Value)} {oc_l_point kV_l_point dc_l_point pm_l_point cd_l_point ct_l_point : Value} (a_l_point : PySem.W.nsIn K mainGlobals "_law_point" = some (some (.ref f_l_point)))
    (l_l_point : K.lookup f_l_point = some ⟨oc_l_point, od_l_point, .func (PySem.W.fnOf "_law_point" "_law_point" (defArgs st_l_point) (defBody st_l_point) (defScope st_l_point) .none kV_l_point dc_l_point pm_l_point an_l_point cd_l_point ct_l_point), sl_l_point⟩)
    (c_l_point : PySem.W.codeIn K cd_l_point "_law_point" = true) (k_l_point : PySem.W.keepIn K (.ref f_l_point) = true)
    {od_l_shifted an_l_shifted : Option Addr} {sl_l_shifted : Array (Option Value)} {oc_l_shifted kV_l_shifted dc_l_shifted pm_l_shifted cd_l_shifted ct_l_shifted : Value} (a_l_shifted : PySem.W.nsIn K mainGlobals "_law_shifted" = some (some (.ref f_l_shifted)))
    (l_l_shifted : K.lookup f_l_shifted = some ⟨oc_l_shifted, od_l_shifted, .func (PySem.W.fnOf "_law_shifted" "_law_shifted" (defArgs st_l_shifted) (defBody st_l_shifted) (defScope st_l_shifted) .none kV_l_shifted dc_l_shifted pm_l_shifted an_l_shifted cd_l_shifted ct_l_shifted), sl_l_shifted⟩)
    (c_l_shifted : PySem.W.codeIn K cd_l_shifted "_law_shifted" = true) (k_l_shifted : PySem.W.keepIn K (.ref f_l_shifted) = true)
    {od_l_scaled an_l_scaled : Option Addr} {sl_l_scaled : Array (Option Value)} {oc_l_scaled kV_l_scaled dc_l_scaled pm_l_scaled cd_l_scaled ct_l_scaled : Value} (a_l_scaled : PySem.W.nsIn K mainGlobals "_law_scaled" = some (some (.ref f_l_scaled)))
    (l_l_scaled : K.lookup f_l_scaled = some ⟨oc_l_scaled, od_l_scaled, .func (PySem.W.fnOf "_law_scaled" "_law_scaled" (defArgs st_l_scaled) (defBody st_l_scaled) (defScope st_l_scaled) .none kV_l_scaled dc_l_scaled pm_l_scaled an_l_scaled cd_l_scaled ct_l_scaled), sl_l_scaled⟩)
    (c_l_scaled : PySem.W.codeIn K cd_l_scaled "_law_scaled" = true) (k_l_scaled : PySem.W.keepIn K (.ref f_l_scaled) = true)
    {od_l_placed an_l_placed : Option Addr} {sl_l_placed : Array (Option Value)} {oc_l_placed kV_l_placed dc_l_placed pm_l_placed cd_l_placed ct_l_placed : Value} (a_l_placed : PySem.W.nsIn K mainGlobals "_law_placed" = some (some (.ref f_l_placed)))
    (l_l_placed : K.lookup f_l_placed = some ⟨oc_l_placed, od_l_placed, .func (PySem.W.fnOf "_law_placed" "_law_placed" (defArgs st_l_placed) (defBody st_l_placed) (defScope st_l_placed) .none kV_l_placed dc_l_placed pm_l_placed an_l_placed cd_l_placed ct_l_placed), sl_l_placed⟩)
    (c_l_placed : PySem.W.codeIn K cd_l_placed "_law_placed" = true) (k_l_placed : PySem.W.keepIn K (.ref f_l_placed) = true)
    {od_l_boxed an_l_boxed : Option Addr} {sl_l_boxed : Array (Option Value)} {oc_l_boxed kV_l_boxed dc_l_boxed pm_l_boxed cd_l_boxed ct_l_boxed : Value} (a_l_boxed : PySem.W.nsIn K mainGlobals "_law_boxed" = some (some (.ref f_l_boxed)))
    (l_l_boxed : K.lookup f_l_boxed = some ⟨oc_l_boxed, od_l_boxed, .func (PySem.W.fnOf "_law_boxed" "_law_boxed" (defArgs st_l_boxed) (defBody st_l_boxed) (defScope st_l_boxed) .none kV_l_boxed dc_l_boxed pm_l_boxed an_l_boxed cd_l_boxed ct_l_boxed), sl_l_boxed⟩)
    (c_l_boxed : PySem.W.codeIn K cd_l_boxed "_law_boxed" = true) (k_l_boxed : PySem.W.keepIn K (.ref f_l_boxed) = true)
    {od_l_made_right an_l_made_right : Option Addr} {sl_l_made_right : Array (Option Value)} {oc_l_made_right kV_l_made_right dc_l_made_right pm_l_made_right cd_l_made_right ct_l_made_right : Value} (a_l_made_right : PySem.W.nsIn K mainGlobals "_law_made_right" = some (some (.ref f_l_made_right)))
    (l_l_made_right : K.lookup f_l_made_right = some ⟨oc_l_made_right, od_l_made_right, .func (PySem.W.fnOf "_law_made_right" "_law_made_right" (defArgs st_l_made_right) (defBody st_l_made_right) (defScope st_l_made_right) .none kV_l_made_right dc_l_made_right pm_l_made_right an_l_made_right cd_l_made_right ct_l_made_right), sl_l_made_right⟩)
    (c_l_made_right : PySem.W.codeIn K cd_l_made_right "_law_made_right" = true) (k_l_made_right : PySem.W.keepIn K (.ref f_l_made_right) = true)
    {od_l_two_right an_l_two_right : Option Addr} {sl_l_two_right : Array (Option Value)} {oc_l_two_right kV_l_two_right dc_l_two_right pm_l_two_right cd_l_two_right ct_l_two_right : Value} (a_l_two_right : PySem.W.nsIn K mainGlobals "_law_two_right" = some (some (.ref f_l_two_right)))
    (l_l_two_right : K.lookup f_l_two_right = some ⟨oc_l_two_right, od_l_two_right, .func (PySem.W.fnOf "_law_two_right" "_law_two_right" (defArgs st_l_two_right) (defBody st_l_two_right) (defScope st_l_two_right) .none kV_l_two_right dc_l_two_right pm_l_two_right an_l_two_right cd_l_two_right ct_l_two_right), sl_l_two_right⟩)
    (c_l_two_right : PySem.W.codeIn K cd_l_two_right "_law_two_right" = true) (k_l_two_right : PySem.W.keepIn K (.ref f_l_two_right) = true)
    {od_l_moved an_l_moved : Option Addr} {sl_l_moved : Array (Option Value)} {oc_l_moved kV_l_moved dc_l_moved pm_l_moved cd_l_moved ct_l_moved : Value} (a_l_moved : PySem.W.nsIn K mainGlobals "_law_moved" = some (some (.ref f_l_moved)))
    (l_l_moved : K.lookup f_l_moved = some ⟨oc_l_moved, od_l_moved, .func (PySem.W.fnOf "_law_moved" "_law_moved" (defArgs st_l_moved) (defBody st_l_moved) (defScope st_l_moved) .none kV_l_moved dc_l_moved pm_l_moved an_l_moved cd_l_moved ct_l_moved), sl_l_moved⟩)
    (c_l_moved : PySem.W.codeIn K cd_l_moved "_law_moved" = true) (k_l_moved : PySem.W.keepIn K (.ref f_l_moved) = true)
    {od_l_next_right an_l_next_right : Option Addr} {sl_l_next_right : Array (Option Value)} {oc_l_next_right kV_l_next_right dc_l_next_right pm_l_next_right cd_l_next_right ct_l_next_right : Value} (a_l_next_right : PySem.W.nsIn K mainGlobals "_law_next_right" = some (some (.ref f_l_next_right)))
    (l_l_next_right : K.lookup f_l_next_right = some ⟨oc_l_next_right, od_l_next_right, .func (PySem.W.fnOf "_law_next_right" "_law_next_right" (defArgs st_l_next_right) (defBody st_l_next_right) (defScope st_l_next_right) .none kV_l_next_right dc_l_next_right pm_l_next_right an_l_next_right cd_l_next_right ct_l_next_right), sl_l_next_right⟩)
    (c_l_next_right : PySem.W.codeIn K cd_l_next_right "_law_next_right" = true) (k_l_next_right : PySem.W.keepIn K (.ref f_l_next_right) = true)
    {od_law an_law : Option Addr} {sl_law : Array (Option Value)} {oc_law kV_law dc_law pm_law cd_law ct_law : Value} (a_law : PySem.W.nsIn K mainGlobals "law" = some (some (.ref f_law)))
    (l_law : K.lookup f_law = some ⟨oc_law, od_law, .func (PySem.W.fnOf "law" "law" (defArgs st_law) (defBody st_law) (defScope st_law) .none kV_law dc_law pm_law an_law cd_law ct_law), sl_law⟩)
    (c_law : PySem.W.codeIn K cd_law "law" = true) (k_law : PySem.W.keepIn K (.ref f_law) = true)
    (z_abs : PySem.W.nsIn K mainGlobals "abs" = some none) (z_any : PySem.W.nsIn K mainGlobals "any" = some none) (z_enumerate : PySem.W.nsIn K mainGlobals "enumerate" = some none) (z_int : PySem.W.nsIn K mainGlobals "int" = some none) (z_len : PySem.W.nsIn K mainGlobals "len" = some none) (z_list : PySem.W.nsIn K mainGlobals "list" = some none) (z_max : PySem.W.nsIn K mainGlobals "max" = some none) (z_range : PySem.W.nsIn K mainGlobals "range" = some none) (z_repr : PySem.W.nsIn K mainGlobals "repr" = some none) (z_sum : PySem.W.nsIn K mainGlobals "sum" = some none) (z_tuple : PySem.W.nsIn K mainGlobals "tuple" = some none) (z_zip : PySem.W.nsIn K mainGlobals "zip" = some none) (z_gcd : PySem.W.nsIn K mainGlobals "gcd" = some (some (.builtin "math.gcd"))) (z_lcm : PySem.W.nsIn K mainGlobals "lcm" = some (some (.builtin "math.lcm"))) :
    ∃ fd : FuncData, (∀ (s : Shared) (u : Value), BindsTo s fd ⟨[u], []⟩ [("script", u)]) ∧ ∀ base : Heap, K.In base → base.Ns mainGlobals mg → NoDig base → FnG PySem.Challenge.rw_everygust_k03_rooms_of_rooms.prog w K mg base 7 fa fd ["script"] (spLaw K) := by
  have e := hfa.symm.trans (PySem.W.mg_of X G a_law)
  cases e
  have T : Tx mg := ⟨PySem.W.mg_none_of X G z_abs, PySem.W.mg_none_of X G z_any, PySem.W.mg_none_of X G z_enumerate, PySem.W.mg_none_of X G z_int, PySem.W.mg_none_of X G z_len, PySem.W.mg_none_of X G z_list, PySem.W.mg_none_of X G z_max, PySem.W.mg_none_of X G z_range, PySem.W.mg_none_of X G z_repr, PySem.W.mg_none_of X G z_sum, PySem.W.mg_none_of X G z_tuple, PySem.W.mg_none_of X G z_zip, PySem.W.mg_of X G z_gcd, PySem.W.mg_of X G z_lcm⟩
  have F_fraction_of := fun_mk (st := st_fraction_of) l_fraction_of c_fraction_of k_fraction_of
  have F_plus := fun_mk (st := st_plus) l_plus c_plus k_plus
  have F_times := fun_mk (st := st_times) l_times c_times k_times
  have F_total := fun_mk (st := st_total) l_total c_total k_total
  have F_dot := fun_mk (st := st_dot) l_dot c_dot k_dot
  have F_divisor := fun_mk (st := st_divisor) l_divisor c_divisor k_divisor
  have F_whole := fun_mk (st := st_whole) l_whole c_whole k_whole
  have F_unit := fun_mk (st := st_unit) l_unit c_unit k_unit
  have F_plain_row := fun_mk (st := st_plain_row) l_plain_row c_plain_row k_plain_row
  have F_first_broken := fun_mk (st := st_first_broken) l_first_broken c_first_broken k_first_broken
  have F_is_in := fun_mk (st := st_is_in) l_is_in c_is_in k_is_in
  have F_joined := fun_mk (st := st_joined) l_joined c_joined k_joined
  have F_product := fun_mk (st := st_product) l_product c_product k_product
  have F_shifted := fun_mk (st := st_shifted) l_shifted c_shifted k_shifted
  have F_scaled := fun_mk (st := st_scaled) l_scaled c_scaled k_scaled
  have F_mirrored := fun_mk (st := st_mirrored) l_mirrored c_mirrored k_mirrored
  have F_placed := fun_mk (st := st_placed) l_placed c_placed k_placed
  have F_boxed := fun_mk (st := st_boxed) l_boxed c_boxed k_boxed
  have F_open_room := fun_mk (st := st_open_room) l_open_room c_open_room k_open_room
  have F_image_of := fun_mk (st := st_image_of) l_image_of c_image_of k_image_of
  have F_next_of := fun_mk (st := st_next_of) l_next_of c_next_of k_next_of
  have F_l_source := fun_mk (st := st_l_source) l_l_source c_l_source k_l_source
  have F_l_pick := fun_mk (st := st_l_pick) l_l_pick c_l_pick k_l_pick
  have F_l_of := fun_mk (st := st_l_of) l_l_of c_l_of k_l_of
  have F_l_mixed := fun_mk (st := st_l_mixed) l_l_mixed c_l_mixed k_l_mixed
  have F_l_least := fun_mk (st := st_l_least) l_l_least c_l_least k_l_least
  have F_l_plus := fun_mk (st := st_l_plus) l_l_plus c_l_plus k_l_plus
  have F_l_times := fun_mk (st := st_l_times) l_l_times c_l_times k_l_times
  have F_l_great := fun_mk (st := st_l_great) l_l_great c_l_great k_l_great
  have F_l_number := fun_mk (st := st_l_number) l_l_number c_l_number k_l_number
  have F_l_fraction := fun_mk (st := st_l_fraction) l_l_fraction c_l_fraction k_l_fraction
  have F_l_divisor := fun_mk (st := st_l_divisor) l_l_divisor c_l_divisor k_l_divisor
  have F_l_plain := fun_mk (st := st_l_plain) l_l_plain c_l_plain k_l_plain
  have F_l_reach := fun_mk (st := st_l_reach) l_l_reach c_l_reach k_l_reach
  have F_l_row_of := fun_mk (st := st_l_row_of) l_l_row_of c_l_row_of k_l_row_of
  have F_l_is_in := fun_mk (st := st_l_is_in) l_l_is_in c_l_is_in k_l_is_in
  have F_l_room := fun_mk (st := st_l_room) l_l_room c_l_room k_l_room
  have F_l_point := fun_mk (st := st_l_point) l_l_point c_l_point k_l_point
  have F_l_shifted := fun_mk (st := st_l_shifted) l_l_shifted c_l_shifted k_l_shifted
  have F_l_scaled := fun_mk (st := st_l_scaled) l_l_scaled c_l_scaled k_l_scaled
  have F_l_placed := fun_mk (st := st_l_placed) l_l_placed c_l_placed k_l_placed
  have F_l_boxed := fun_mk (st := st_l_boxed) l_l_boxed c_l_boxed k_l_boxed
  have F_l_made_right := fun_mk (st := st_l_made_right) l_l_made_right c_l_made_right k_l_made_right
  have F_l_two_right := fun_mk (st := st_l_two_right) l_l_two_right c_l_two_right k_l_two_right
  have F_l_moved := fun_mk (st := st_l_moved) l_l_moved c_l_moved k_l_moved
  have F_l_next_right := fun_mk (st := st_l_next_right) l_l_next_right c_l_next_right k_l_next_right
  have F_law := fun_mk (st := st_law) l_law c_law k_law
  have b_fraction_of := F_fraction_of.binds (ps := ["p", "q"]) fun _ _ _ _ _ _ us hl => match us, hl with | [_, _], _ => rfl
  have b_plus := F_plus.binds (ps := ["one", "other"]) fun _ _ _ _ _ _ us hl => match us, hl with | [_, _], _ => rfl
  have b_times := F_times.binds (ps := ["one", "other"]) fun _ _ _ _ _ _ us hl => match us, hl with | [_, _], _ => rfl
  have b_total := F_total.binds (ps := ["fractions"]) fun _ _ _ _ _ _ us hl => match us, hl with | [_], _ => rfl
  have b_dot := F_dot.binds (ps := ["one", "other"]) fun _ _ _ _ _ _ us hl => match us, hl with | [_, _], _ => rfl
  have b_divisor := F_divisor.binds (ps := ["numbers"]) fun _ _ _ _ _ _ us hl => match us, hl with | [_], _ => rfl
  have b_whole := F_whole.binds (ps := ["fractions"]) fun _ _ _ _ _ _ us hl => match us, hl with | [_], _ => rfl
  have b_unit := F_unit.binds (ps := ["n", "place", "number"]) fun _ _ _ _ _ _ us hl => match us, hl with | [_, _, _], _ => rfl
  have b_plain_row := F_plain_row.binds (ps := ["row"]) fun _ _ _ _ _ _ us hl => match us, hl with | [_], _ => rfl
  have b_first_broken := F_first_broken.binds (ps := ["room", "point"]) fun _ _ _ _ _ _ us hl => match us, hl with | [_, _], _ => rfl
  have b_is_in := F_is_in.binds (ps := ["room", "point"]) fun _ _ _ _ _ _ us hl => match us, hl with | [_, _], _ => rfl
  have b_joined := F_joined.binds (ps := ["one", "other"]) fun _ _ _ _ _ _ us hl => match us, hl with | [_, _], _ => rfl
  have b_product := F_product.binds (ps := ["one", "other"]) fun _ _ _ _ _ _ us hl => match us, hl with | [_, _], _ => rfl
  have b_shifted := F_shifted.binds (ps := ["room", "point"]) fun _ _ _ _ _ _ us hl => match us, hl with | [_, _], _ => rfl
  have b_scaled := F_scaled.binds (ps := ["room", "t"]) fun _ _ _ _ _ _ us hl => match us, hl with | [_, _], _ => rfl
  have b_mirrored := F_mirrored.binds (ps := ["room"]) fun _ _ _ _ _ _ us hl => match us, hl with | [_], _ => rfl
  have b_placed := F_placed.binds (ps := ["room", "order"]) fun _ _ _ _ _ _ us hl => match us, hl with | [_, _], _ => rfl
  have b_boxed := F_boxed.binds (ps := ["low", "high"]) fun _ _ _ _ _ _ us hl => match us, hl with | [_, _], _ => rfl
  have b_open_room := F_open_room.binds (ps := ["n"]) fun _ _ _ _ _ _ us hl => match us, hl with | [_], _ => rfl
  have b_image_of := F_image_of.binds (ps := ["matrix", "point", "shift"]) fun _ _ _ _ _ _ us hl => match us, hl with | [_, _, _], _ => rfl
  have b_next_of := F_next_of.binds (ps := ["plant", "x", "u", "w"]) fun _ _ _ _ _ _ us hl => match us, hl with | [_, _, _, _], _ => rfl
  have b_l_source := F_l_source.binds (ps := ["script"]) fun _ _ _ _ _ _ us hl => match us, hl with | [_], _ => rfl
  have b_l_pick := F_l_pick.binds (ps := ["source", "many"]) fun _ _ _ _ _ _ us hl => match us, hl with | [_, _], _ => rfl
  have b_l_of := F_l_of.binds (ps := ["source", "some"]) fun _ _ _ _ _ _ us hl => match us, hl with | [_, _], _ => rfl
  have b_l_mixed := F_l_mixed.binds (ps := ["source", "things"]) fun _ _ _ _ _ _ us hl => match us, hl with | [_, _], _ => rfl
  have b_l_least := F_l_least.binds (ps := ["a", "b"]) fun _ _ _ _ _ _ us hl => match us, hl with | [_, _], _ => rfl
  have b_l_plus := F_l_plus.binds (ps := ["x", "y"]) fun _ _ _ _ _ _ us hl => match us, hl with | [_, _], _ => rfl
  have b_l_times := F_l_times.binds (ps := ["x", "y"]) fun _ _ _ _ _ _ us hl => match us, hl with | [_, _], _ => rfl
  have b_l_great := F_l_great.binds (ps := ["source", "figures"]) fun _ _ _ _ _ _ us hl => match us, hl with | [_, _], _ => rfl
  have b_l_number := F_l_number.binds (ps := ["source"]) fun _ _ _ _ _ _ us hl => match us, hl with | [_], _ => rfl
  have b_l_fraction := F_l_fraction.binds (ps := ["source"]) fun _ _ _ _ _ _ us hl => match us, hl with | [_], _ => rfl
  have b_l_divisor := F_l_divisor.binds (ps := ["numbers"]) fun _ _ _ _ _ _ us hl => match us, hl with | [_], _ => rfl
  have b_l_plain := F_l_plain.binds (ps := ["row"]) fun _ _ _ _ _ _ us hl => match us, hl with | [_], _ => rfl
  have b_l_reach := F_l_reach.binds (ps := ["row", "point"]) fun _ _ _ _ _ _ us hl => match us, hl with | [_, _], _ => rfl
  have b_l_row_of := F_l_row_of.binds (ps := ["members", "bound"]) fun _ _ _ _ _ _ us hl => match us, hl with | [_, _], _ => rfl
  have b_l_is_in := F_l_is_in.binds (ps := ["room", "point"]) fun _ _ _ _ _ _ us hl => match us, hl with | [_, _], _ => rfl
  have b_l_room := F_l_room.binds (ps := ["source", "n"]) fun _ _ _ _ _ _ us hl => match us, hl with | [_, _], _ => rfl
  have b_l_point := F_l_point.binds (ps := ["source", "n"]) fun _ _ _ _ _ _ us hl => match us, hl with | [_, _], _ => rfl
  have b_l_shifted := F_l_shifted.binds (ps := ["room", "point"]) fun _ _ _ _ _ _ us hl => match us, hl with | [_, _], _ => rfl
  have b_l_scaled := F_l_scaled.binds (ps := ["room", "t"]) fun _ _ _ _ _ _ us hl => match us, hl with | [_, _], _ => rfl
  have b_l_placed := F_l_placed.binds (ps := ["room", "order"]) fun _ _ _ _ _ _ us hl => match us, hl with | [_, _], _ => rfl
  have b_l_boxed := F_l_boxed.binds (ps := ["low", "high"]) fun _ _ _ _ _ _ us hl => match us, hl with | [_, _], _ => rfl
  have b_l_made_right := F_l_made_right.binds (ps := ["source", "n"]) fun _ _ _ _ _ _ us hl => match us, hl with | [_, _], _ => rfl
  have b_l_two_right := F_l_two_right.binds (ps := ["source", "n"]) fun _ _ _ _ _ _ us hl => match us, hl with | [_, _], _ => rfl
  have b_l_moved := F_l_moved.binds (ps := ["matrix", "point", "shift"]) fun _ _ _ _ _ _ us hl => match us, hl with | [_, _, _], _ => rfl
  have b_l_next_right := F_l_next_right.binds (ps := ["source"]) fun _ _ _ _ _ _ us hl => match us, hl with | [_], _ => rfl
  refine ⟨PySem.W.fnOf "law" "law" (defArgs st_law) (defBody st_law) (defScope st_law) .none kV_law dc_law pm_law an_law cd_law ct_law, fun s u => .of_eq rfl, fun base _ _ ND => ?_⟩
  have h_dot : Has PySem.Challenge.rw_everygust_k03_rooms_of_rooms.prog w K mg base "dot" 1 ["one", "other"] (spG mDot) := ⟨_, _, ok_dot F_dot T , PySem.W.mg_of X G a_dot, k_dot, b_dot⟩
  have h_whole : Has PySem.Challenge.rw_everygust_k03_rooms_of_rooms.prog w K mg base "whole" 1 ["fractions"] (spG mWhole) := ⟨_, _, ok_whole F_whole T , PySem.W.mg_of X G a_whole, k_whole, b_whole⟩
  have h_divisor : Has PySem.Challenge.rw_everygust_k03_rooms_of_rooms.prog w K mg base "divisor" 1 ["numbers"] (spG mDivisor) := ⟨_, _, ok_divisor F_divisor T , PySem.W.mg_of X G a_divisor, k_divisor, b_divisor⟩
  have h_plain_row : Has PySem.Challenge.rw_everygust_k03_rooms_of_rooms.prog w K mg base "plain_row" 2 ["row"] (spG mPlain) := ⟨_, _, ok_plain_row F_plain_row T h_divisor, PySem.W.mg_of X G a_plain_row, k_plain_row, b_plain_row⟩
  have h_shifted : Has PySem.Challenge.rw_everygust_k03_rooms_of_rooms.prog w K mg base "shifted" 3 ["room", "point"] (spG mShifted) := ⟨_, _, ok_shifted F_shifted T h_dot h_whole h_plain_row, PySem.W.mg_of X G a_shifted, k_shifted, b_shifted⟩
  have h_placed : Has PySem.Challenge.rw_everygust_k03_rooms_of_rooms.prog w K mg base "placed" 3 ["room", "order"] (spG mPlaced) := ⟨_, _, ok_placed F_placed T h_plain_row, PySem.W.mg_of X G a_placed, k_placed, b_placed⟩
  have h_unit : Has PySem.Challenge.rw_everygust_k03_rooms_of_rooms.prog w K mg base "unit" 1 ["n", "place", "number"] (spG mUnit) := ⟨_, _, ok_unit F_unit T , PySem.W.mg_of X G a_unit, k_unit, b_unit⟩
  have h_boxed : Has PySem.Challenge.rw_everygust_k03_rooms_of_rooms.prog w K mg base "boxed" 3 ["low", "high"] (spG mBoxed) := ⟨_, _, ok_boxed F_boxed T h_unit h_plain_row, PySem.W.mg_of X G a_boxed, k_boxed, b_boxed⟩
  have h_l_source : Has PySem.Challenge.rw_everygust_k03_rooms_of_rooms.prog w K mg base "_law_source" 1 ["script"] (spSource K) := ⟨_, _, ok_source F_l_source T , PySem.W.mg_of X G a_l_source, k_l_source, b_l_source⟩
  have h_l_pick : Has PySem.Challenge.rw_everygust_k03_rooms_of_rooms.prog w K mg base "_law_pick" 1 ["source", "many"] (spG mPick) := ⟨_, _, ok_pick F_l_pick T , PySem.W.mg_of X G a_l_pick, k_l_pick, b_l_pick⟩
  have h_l_of : Has PySem.Challenge.rw_everygust_k03_rooms_of_rooms.prog w K mg base "_law_of" 2 ["source", "some"] (spG mOf) := ⟨_, _, ok_l_of F_l_of T h_l_pick, PySem.W.mg_of X G a_l_of, k_l_of, b_l_of⟩
  have h_first_broken : Has PySem.Challenge.rw_everygust_k03_rooms_of_rooms.prog w K mg base "first_broken" 2 ["room", "point"] (spG (mRoom firstD)) := ⟨_, _, ok_first_broken F_first_broken T h_dot h_whole, PySem.W.mg_of X G a_first_broken, k_first_broken, b_first_broken⟩
  have h_is_in : Has PySem.Challenge.rw_everygust_k03_rooms_of_rooms.prog w K mg base "is_in" 3 ["room", "point"] (spG (mRoom fun rows xs => .bool (isInB rows xs))) := ⟨_, _, ok_is_in F_is_in T h_first_broken, PySem.W.mg_of X G a_is_in, k_is_in, b_is_in⟩
  have h_scaled : Has PySem.Challenge.rw_everygust_k03_rooms_of_rooms.prog w K mg base "scaled" 3 ["room", "t"] (spG mScaled) := ⟨_, _, ok_scaled F_scaled T h_plain_row, PySem.W.mg_of X G a_scaled, k_scaled, b_scaled⟩
  have h_mirrored : Has PySem.Challenge.rw_everygust_k03_rooms_of_rooms.prog w K mg base "mirrored" 3 ["room"] (spG mMirrored) := ⟨_, _, ok_mirrored F_mirrored T h_plain_row, PySem.W.mg_of X G a_mirrored, k_mirrored, b_mirrored⟩
  have h_open_room : Has PySem.Challenge.rw_everygust_k03_rooms_of_rooms.prog w K mg base "open_room" 1 ["n"] (spG mOpen) := ⟨_, _, ok_open_room F_open_room T , PySem.W.mg_of X G a_open_room, k_open_room, b_open_room⟩
  have h_l_mixed : Has PySem.Challenge.rw_everygust_k03_rooms_of_rooms.prog w K mg base "_law_mixed" 2 ["source", "things"] (spG mMixed) := ⟨_, _, ok_l_mixed F_l_mixed T h_l_pick, PySem.W.mg_of X G a_l_mixed, k_l_mixed, b_l_mixed⟩
  have h_l_least : Has PySem.Challenge.rw_everygust_k03_rooms_of_rooms.prog w K mg base "_law_least" 1 ["a", "b"] (spG mLeast) := ⟨_, _, ok_l_least F_l_least T , PySem.W.mg_of X G a_l_least, k_l_least, b_l_least⟩
  have h_l_plus : Has PySem.Challenge.rw_everygust_k03_rooms_of_rooms.prog w K mg base "_law_plus" 2 ["x", "y"] (spG (mBin pl)) := ⟨_, _, ok_l_plus F_l_plus T h_l_least, PySem.W.mg_of X G a_l_plus, k_l_plus, b_l_plus⟩
  have h_l_times : Has PySem.Challenge.rw_everygust_k03_rooms_of_rooms.prog w K mg base "_law_times" 2 ["x", "y"] (spG (mBin tm)) := ⟨_, _, ok_l_times F_l_times T h_l_least, PySem.W.mg_of X G a_l_times, k_l_times, b_l_times⟩
  have h_l_great : Has PySem.Challenge.rw_everygust_k03_rooms_of_rooms.prog w K mg base "_law_great" 2 ["source", "figures"] (spG mGreat) := ⟨_, _, ok_l_great F_l_great T h_l_pick, PySem.W.mg_of X G a_l_great, k_l_great, b_l_great⟩
  have h_l_fraction : Has PySem.Challenge.rw_everygust_k03_rooms_of_rooms.prog w K mg base "_law_fraction" 3 ["source"] (spG mFrac) := ⟨_, _, ok_l_fraction F_l_fraction T h_l_pick h_l_of h_l_least h_l_great, PySem.W.mg_of X G a_l_fraction, k_l_fraction, b_l_fraction⟩
  have h_l_divisor : Has PySem.Challenge.rw_everygust_k03_rooms_of_rooms.prog w K mg base "_law_divisor" 1 ["numbers"] (spG mLDiv) := ⟨_, _, ok_l_divisor F_l_divisor T , PySem.W.mg_of X G a_l_divisor, k_l_divisor, b_l_divisor⟩
  have h_l_plain : Has PySem.Challenge.rw_everygust_k03_rooms_of_rooms.prog w K mg base "_law_plain" 2 ["row"] (spG mPlain) := ⟨_, _, ok_l_plain F_l_plain T h_l_divisor, PySem.W.mg_of X G a_l_plain, k_l_plain, b_l_plain⟩
  have h_l_reach : Has PySem.Challenge.rw_everygust_k03_rooms_of_rooms.prog w K mg base "_law_reach" 3 ["row", "point"] (spG (mLReach fun a _ xs => reachR a xs)) := ⟨_, _, ok_l_reach F_l_reach T h_l_least h_l_plus, PySem.W.mg_of X G a_l_reach, k_l_reach, b_l_reach⟩
  have h_l_is_in : Has PySem.Challenge.rw_everygust_k03_rooms_of_rooms.prog w K mg base "_law_is_in" 4 ["room", "point"] (spG mIsIn) := ⟨_, _, ok_l_is_in F_l_is_in T h_l_plus h_l_times h_l_reach, PySem.W.mg_of X G a_l_is_in, k_l_is_in, b_l_is_in⟩
  have h_l_number : Has PySem.Challenge.rw_everygust_k03_rooms_of_rooms.prog w K mg base "_law_number" 3 ["source"] (spG mNumber) := ⟨_, _, ok_l_number F_l_number T h_l_pick h_l_great, PySem.W.mg_of X G a_l_number, k_l_number, b_l_number⟩
  have h_l_room : Has PySem.Challenge.rw_everygust_k03_rooms_of_rooms.prog w K mg base "_law_room" 4 ["source", "n"] (spG mRoomD) := ⟨_, _, ok_l_room F_l_room T h_l_pick h_l_of h_l_mixed h_l_number, PySem.W.mg_of X G a_l_room, k_l_room, b_l_room⟩
  have h_l_point : Has PySem.Challenge.rw_everygust_k03_rooms_of_rooms.prog w K mg base "_law_point" 4 ["source", "n"] (spG mPoint) := ⟨_, _, ok_l_point F_l_point T h_l_fraction, PySem.W.mg_of X G a_l_point, k_l_point, b_l_point⟩
  have h_l_row_of : Has PySem.Challenge.rw_everygust_k03_rooms_of_rooms.prog w K mg base "_law_row_of" 3 ["members", "bound"] (spG mRowOnes) := ⟨_, _, ok_l_row_of F_l_row_of T h_l_divisor h_l_plain, PySem.W.mg_of X G a_l_row_of, k_l_row_of, b_l_row_of⟩
  have h_l_shifted : Has PySem.Challenge.rw_everygust_k03_rooms_of_rooms.prog w K mg base "_law_shifted" 4 ["room", "point"] (spG mLShifted) := ⟨_, _, ok_l_shifted F_l_shifted T h_l_plus h_l_reach h_l_row_of, PySem.W.mg_of X G a_l_shifted, k_l_shifted, b_l_shifted⟩
  have h_l_scaled : Has PySem.Challenge.rw_everygust_k03_rooms_of_rooms.prog w K mg base "_law_scaled" 4 ["room", "t"] (spG mLScaled) := ⟨_, _, ok_l_scaled F_l_scaled T h_l_times h_l_row_of, PySem.W.mg_of X G a_l_scaled, k_l_scaled, b_l_scaled⟩
  have h_l_placed : Has PySem.Challenge.rw_everygust_k03_rooms_of_rooms.prog w K mg base "_law_placed" 3 ["room", "order"] (spG mPlaced) := ⟨_, _, ok_l_placed F_l_placed T h_l_plain, PySem.W.mg_of X G a_l_placed, k_l_placed, b_l_placed⟩
  have h_l_made_right : HasG PySem.Challenge.rw_everygust_k03_rooms_of_rooms.prog w K mg base "_law_made_right" 5 ["source", "n"] (spG mHalf) := ⟨_, _, ok_l_made_right F_l_made_right T h_is_in.toG h_shifted.toG h_scaled.toG h_mirrored.toG h_placed.toG h_open_room.toG h_l_mixed.toG h_l_plus.toG h_l_times.toG h_l_fraction.toG h_l_plain.toG h_l_is_in.toG h_l_room.toG h_l_point.toG h_l_shifted.toG h_l_scaled.toG h_l_placed.toG ND, PySem.W.mg_of X G a_l_made_right, k_l_made_right, b_l_made_right⟩
  have h_joined : Has PySem.Challenge.rw_everygust_k03_rooms_of_rooms.prog w K mg base "joined" 3 ["one", "other"] (spG mJoined) := ⟨_, _, ok_joined F_joined T h_plain_row, PySem.W.mg_of X G a_joined, k_joined, b_joined⟩
  have h_product : Has PySem.Challenge.rw_everygust_k03_rooms_of_rooms.prog w K mg base "product" 3 ["one", "other"] (spG mProduct) := ⟨_, _, ok_product F_product T h_plain_row, PySem.W.mg_of X G a_product, k_product, b_product⟩
  have h_l_boxed : Has PySem.Challenge.rw_everygust_k03_rooms_of_rooms.prog w K mg base "_law_boxed" 4 ["low", "high"] (spG mBoxed) := ⟨_, _, ok_l_boxed F_l_boxed T h_l_row_of, PySem.W.mg_of X G a_l_boxed, k_l_boxed, b_l_boxed⟩
  have h_l_two_right : HasG PySem.Challenge.rw_everygust_k03_rooms_of_rooms.prog w K mg base "_law_two_right" 5 ["source", "n"] (spG mHalf) := ⟨_, _, ok_l_two_right F_l_two_right T h_is_in.toG h_joined.toG h_product.toG h_boxed.toG h_l_pick.toG h_l_plain.toG h_l_is_in.toG h_l_room.toG h_l_point.toG h_l_boxed.toG ND, PySem.W.mg_of X G a_l_two_right, k_l_two_right, b_l_two_right⟩
  have h_fraction_of : Has PySem.Challenge.rw_everygust_k03_rooms_of_rooms.prog w K mg base "fraction_of" 1 ["p", "q"] (spG mFr) := ⟨_, _, ok_fraction_of F_fraction_of T , PySem.W.mg_of X G a_fraction_of, k_fraction_of, b_fraction_of⟩
  have h_plus : Has PySem.Challenge.rw_everygust_k03_rooms_of_rooms.prog w K mg base "plus" 2 ["one", "other"] (spG (mBin pl)) := ⟨_, _, ok_plus F_plus T h_fraction_of, PySem.W.mg_of X G a_plus, k_plus, b_plus⟩
  have h_times : Has PySem.Challenge.rw_everygust_k03_rooms_of_rooms.prog w K mg base "times" 2 ["one", "other"] (spG (mBin tm)) := ⟨_, _, ok_times F_times T h_fraction_of, PySem.W.mg_of X G a_times, k_times, b_times⟩
  have h_total : Has PySem.Challenge.rw_everygust_k03_rooms_of_rooms.prog w K mg base "total" 3 ["fractions"] (spG mTotal) := ⟨_, _, ok_total F_total T h_plus, PySem.W.mg_of X G a_total, k_total, b_total⟩
  have h_image_of : Has PySem.Challenge.rw_everygust_k03_rooms_of_rooms.prog w K mg base "image_of" 4 ["matrix", "point", "shift"] (spG mImage) := ⟨_, _, ok_image_of F_image_of T h_plus h_times h_total, PySem.W.mg_of X G a_image_of, k_image_of, b_image_of⟩
  have h_next_of : Has PySem.Challenge.rw_everygust_k03_rooms_of_rooms.prog w K mg base "next_of" 5 ["plant", "x", "u", "w"] (spG mNext) := ⟨_, _, ok_next_of F_next_of T h_image_of, PySem.W.mg_of X G a_next_of, k_next_of, b_next_of⟩
  have h_l_moved : Has PySem.Challenge.rw_everygust_k03_rooms_of_rooms.prog w K mg base "_law_moved" 3 ["matrix", "point", "shift"] (spG mMoved) := ⟨_, _, ok_l_moved F_l_moved T h_l_plus h_l_times, PySem.W.mg_of X G a_l_moved, k_l_moved, b_l_moved⟩
  have h_l_next_right : HasG PySem.Challenge.rw_everygust_k03_rooms_of_rooms.prog w K mg base "_law_next_right" 6 ["source"] (spG mHalf1) := ⟨_, _, ok_l_next_right F_l_next_right T h_image_of.toG h_next_of.toG h_l_pick.toG h_l_room.toG h_l_point.toG h_l_moved.toG ND, PySem.W.mg_of X G a_l_next_right, k_l_next_right, b_l_next_right⟩
  exact ok_law F_law T h_shifted.toG h_placed.toG h_boxed.toG h_l_source.toG h_l_of.toG h_l_made_right h_l_two_right h_l_next_right ND
end E3
end
set_option Elab.async false
set_option linter.all false
set_option maxRecDepth 100000
set_option maxHeartbeats 0
open PySem PySem.W PyProof.Rows
theorem PySem.Challenge.cw_everygust_k03_rooms_of_rooms_holds : PySem.Challenge.rw_everygust_k03_rooms_of_rooms.Holds := by
  w_on; o_law; k_head; (case hw => w_witness2)
  k_fill
  refine Ev.walk_ofG (l := PySem.Challenge.rw_everygust_k03_rooms_of_rooms) (n := 63) (k := 7) (sp := Ev.spLaw) (x := "script") rfl (by decide) rfl ⟨rfl, by decide, by decide⟩ (fun w h Y => PySem.W.kIn_of Y) ?F (fun K H a ns short z => ⟨a, ns, rfl, z, short, fun _ => rfl⟩)
  case F =>
    intro w mg fa h KX G hmg
    refine' E3.all_mk KX G hmg ?a_fraction_of ?l_fraction_of ?c_fraction_of ?k_fraction_of ?a_plus ?l_plus ?c_plus ?k_plus ?a_times ?l_times ?c_times ?k_times ?a_total ?l_total ?c_total ?k_total ?a_dot ?l_dot ?c_dot ?k_dot ?a_divisor ?l_divisor ?c_divisor ?k_divisor ?a_whole ?l_whole ?c_whole ?k_whole ?a_unit ?l_unit ?c_unit ?k_unit ?a_plain_row ?l_plain_row ?c_plain_row ?k_plain_row ?a_first_broken ?l_first_broken ?c_first_broken ?k_first_broken ?a_is_in ?l_is_in ?c_is_in ?k_is_in ?a_joined ?l_joined ?c_joined ?k_joined ?a_product ?l_product ?c_product ?k_product ?a_shifted ?l_shifted ?c_shifted ?k_shifted ?a_scaled ?l_scaled ?c_scaled ?k_scaled ?a_mirrored ?l_mirrored ?c_mirrored ?k_mirrored ?a_placed ?l_placed ?c_placed ?k_placed ?a_boxed ?l_boxed ?c_boxed ?k_boxed ?a_open_room ?l_open_room ?c_open_room ?k_open_room ?a_image_of ?l_image_of ?c_image_of ?k_image_of ?a_next_of ?l_next_of ?c_next_of ?k_next_of ?a_l_source ?l_l_source ?c_l_source ?k_l_source ?a_l_pick ?l_l_pick ?c_l_pick ?k_l_pick ?a_l_of ?l_l_of ?c_l_of ?k_l_of ?a_l_mixed ?l_l_mixed ?c_l_mixed ?k_l_mixed ?a_l_least ?l_l_least ?c_l_least ?k_l_least ?a_l_plus ?l_l_plus ?c_l_plus ?k_l_plus ?a_l_times ?l_l_times ?c_l_times ?k_l_times ?a_l_great ?l_l_great ?c_l_great ?k_l_great ?a_l_number ?l_l_number ?c_l_number ?k_l_number ?a_l_fraction ?l_l_fraction ?c_l_fraction ?k_l_fraction ?a_l_divisor ?l_l_divisor ?c_l_divisor ?k_l_divisor ?a_l_plain ?l_l_plain ?c_l_plain ?k_l_plain ?a_l_reach ?l_l_reach ?c_l_reach ?k_l_reach ?a_l_row_of ?l_l_row_of ?c_l_row_of ?k_l_row_of ?a_l_is_in ?l_l_is_in ?c_l_is_in ?k_l_is_in ?a_l_room ?l_l_room ?c_l_room ?k_l_room ?a_l_point ?l_l_point ?c_l_point ?k_l_point ?a_l_shifted ?l_l_shifted ?c_l_shifted ?k_l_shifted ?a_l_scaled ?l_l_scaled ?c_l_scaled ?k_l_scaled ?a_l_placed ?l_l_placed ?c_l_placed ?k_l_placed ?a_l_boxed ?l_l_boxed ?c_l_boxed ?k_l_boxed ?a_l_made_right ?l_l_made_right ?c_l_made_right ?k_l_made_right ?a_l_two_right ?l_l_two_right ?c_l_two_right ?k_l_two_right ?a_l_moved ?l_l_moved ?c_l_moved ?k_l_moved ?a_l_next_right ?l_l_next_right ?c_l_next_right ?k_l_next_right ?a_law ?l_law ?c_law ?k_law ?z_abs ?z_any ?z_enumerate ?z_int ?z_len ?z_list ?z_max ?z_range ?z_repr ?z_sum ?z_tuple ?z_zip ?z_gcd ?z_lcm
    (case a_fraction_of => k_is); (case l_fraction_of => k_is); (case c_fraction_of => k_is); (case k_fraction_of => k_is)
    (case a_plus => k_is); (case l_plus => k_is); (case c_plus => k_is); (case k_plus => k_is)
    (case a_times => k_is); (case l_times => k_is); (case c_times => k_is); (case k_times => k_is)
    (case a_total => k_is); (case l_total => k_is); (case c_total => k_is); (case k_total => k_is)
    (case a_dot => k_is); (case l_dot => k_is); (case c_dot => k_is); (case k_dot => k_is)
    (case a_divisor => k_is); (case l_divisor => k_is); (case c_divisor => k_is); (case k_divisor => k_is)
    (case a_whole => k_is); (case l_whole => k_is); (case c_whole => k_is); (case k_whole => k_is)
    (case a_unit => k_is); (case l_unit => k_is); (case c_unit => k_is); (case k_unit => k_is)
    (case a_plain_row => k_is); (case l_plain_row => k_is); (case c_plain_row => k_is); (case k_plain_row => k_is)
    (case a_first_broken => k_is); (case l_first_broken => k_is); (case c_first_broken => k_is); (case k_first_broken => k_is)
    (case a_is_in => k_is); (case l_is_in => k_is); (case c_is_in => k_is); (case k_is_in => k_is)
    (case a_joined => k_is); (case l_joined => k_is); (case c_joined => k_is); (case k_joined => k_is)
    (case a_product => k_is); (case l_product => k_is); (case c_product => k_is); (case k_product => k_is)
    (case a_shifted => k_is); (case l_shifted => k_is); (case c_shifted => k_is); (case k_shifted => k_is)
    (case a_scaled => k_is); (case l_scaled => k_is); (case c_scaled => k_is); (case k_scaled => k_is)
    (case a_mirrored => k_is); (case l_mirrored => k_is); (case c_mirrored => k_is); (case k_mirrored => k_is)
    (case a_placed => k_is); (case l_placed => k_is); (case c_placed => k_is); (case k_placed => k_is)
    (case a_boxed => k_is); (case l_boxed => k_is); (case c_boxed => k_is); (case k_boxed => k_is)
    (case a_open_room => k_is); (case l_open_room => k_is); (case c_open_room => k_is); (case k_open_room => k_is)
    (case a_image_of => k_is); (case l_image_of => k_is); (case c_image_of => k_is); (case k_image_of => k_is)
    (case a_next_of => k_is); (case l_next_of => k_is); (case c_next_of => k_is); (case k_next_of => k_is)
    (case a_l_source => k_is); (case l_l_source => k_is); (case c_l_source => k_is); (case k_l_source => k_is)
    (case a_l_pick => k_is); (case l_l_pick => k_is); (case c_l_pick => k_is); (case k_l_pick => k_is)
    (case a_l_of => k_is); (case l_l_of => k_is); (case c_l_of => k_is); (case k_l_of => k_is)
    (case a_l_mixed => k_is); (case l_l_mixed => k_is); (case c_l_mixed => k_is); (case k_l_mixed => k_is)
    (case a_l_least => k_is); (case l_l_least => k_is); (case c_l_least => k_is); (case k_l_least => k_is)
    (case a_l_plus => k_is); (case l_l_plus => k_is); (case c_l_plus => k_is); (case k_l_plus => k_is)
    (case a_l_times => k_is); (case l_l_times => k_is); (case c_l_times => k_is); (case k_l_times => k_is)
    (case a_l_great => k_is); (case l_l_great => k_is); (case c_l_great => k_is); (case k_l_great => k_is)
    (case a_l_number => k_is); (case l_l_number => k_is); (case c_l_number => k_is); (case k_l_number => k_is)
    (case a_l_fraction => k_is); (case l_l_fraction => k_is); (case c_l_fraction => k_is); (case k_l_fraction => k_is)
    (case a_l_divisor => k_is); (case l_l_divisor => k_is); (case c_l_divisor => k_is); (case k_l_divisor => k_is)
    (case a_l_plain => k_is); (case l_l_plain => k_is); (case c_l_plain => k_is); (case k_l_plain => k_is)
    (case a_l_reach => k_is); (case l_l_reach => k_is); (case c_l_reach => k_is); (case k_l_reach => k_is)
    (case a_l_row_of => k_is); (case l_l_row_of => k_is); (case c_l_row_of => k_is); (case k_l_row_of => k_is)
    (case a_l_is_in => k_is); (case l_l_is_in => k_is); (case c_l_is_in => k_is); (case k_l_is_in => k_is)
    (case a_l_room => k_is); (case l_l_room => k_is); (case c_l_room => k_is); (case k_l_room => k_is)
    (case a_l_point => k_is); (case l_l_point => k_is); (case c_l_point => k_is); (case k_l_point => k_is)
    (case a_l_shifted => k_is); (case l_l_shifted => k_is); (case c_l_shifted => k_is); (case k_l_shifted => k_is)
    (case a_l_scaled => k_is); (case l_l_scaled => k_is); (case c_l_scaled => k_is); (case k_l_scaled => k_is)
    (case a_l_placed => k_is); (case l_l_placed => k_is); (case c_l_placed => k_is); (case k_l_placed => k_is)
    (case a_l_boxed => k_is); (case l_l_boxed => k_is); (case c_l_boxed => k_is); (case k_l_boxed => k_is)
    (case a_l_made_right => k_is); (case l_l_made_right => k_is); (case c_l_made_right => k_is); (case k_l_made_right => k_is)
    (case a_l_two_right => k_is); (case l_l_two_right => k_is); (case c_l_two_right => k_is); (case k_l_two_right => k_is)
    (case a_l_moved => k_is); (case l_l_moved => k_is); (case c_l_moved => k_is); (case k_l_moved => k_is)
    (case a_l_next_right => k_is); (case l_l_next_right => k_is); (case c_l_next_right => k_is); (case k_l_next_right => k_is)
    (case a_law => k_is); (case l_law => k_is); (case c_law => k_is); (case k_law => k_is)
    (case z_abs => k_is); (case z_any => k_is); (case z_enumerate => k_is); (case z_int => k_is)
    (case z_len => k_is); (case z_list => k_is); (case z_max => k_is); (case z_range => k_is)
    (case z_repr => k_is); (case z_sum => k_is); (case z_tuple => k_is); (case z_zip => k_is)
    (case z_gcd => k_is); (case z_lcm => k_is)
