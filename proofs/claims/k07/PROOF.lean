import PyProof.Rows.All
import Wide.All
import OpenK.AllK
import Wide.FinOn
import PyProof.EqAt
import PyProof.EqKinds
import PyProof.TupleCall
import HandS.ForMost
import HandS.IsInst
import HandS.Wide
import HandS.MakeKw
import HandS.Style
import HandS.More
import HandS.Ends
import KE.GoesNew
import PyProof.EnumMake
import HandS.Dict
import KE.SortData
import HandS.Set
import HandS.SortInts
import HandS.SetKeys
import HandS.SetBool
import PyProof.WalksMore
import PyProof.SetRoads
import HandS.MakeKwOnly
import HandS.TupAny
import HandS.Deep
import HandS.Conv
import HandS.Iter
import HandS.WordsExc
import HandS.TryMany
import HandS.RevRange
import KE.DataCmp
import KE.DataMinMax
import PySem.Challenge.RW_whoselines_k07_shortest_rows
import KE.SortLaws
section
set_option Elab.async false
set_option linter.all false
set_option maxRecDepth 100000
set_option maxHeartbeats 2000000
namespace DL
open PySem PySem.Spec PyProof.Rows L2

/-! ### data -/
inductive D where
  | non | bl (b : Bool) | int (i : Int) | str (x : Str)
  | lst (xs : List D) | tup (xs : List D)
  | ins (C : Addr) (fs : List (Str × D))
  | dT (kvs : List (List Key × D))
  | dK (kvs : List (Key × D))
  | raw (v : V)
/-- a slot's value: data, or the n-th object that may change -/
inductive S where
  | d (x : D) | p (n : Nat)
/-- what stands in an object that may change -/
inductive C where
  | lst (xs : List S)
  | ins (C : Addr) (fs : List (Str × S))
  | dT (kvs : List (List Key × S))
  | dK (kvs : List (Key × S))
  | at (f : Addr → HO)
  | dead
abbrev Rho := List (Option S)
abbrev Mem := List C
structure Gh where
  G : Hp
  θ : List Addr

mutual
inductive Rep (K : PySem.W.Frag) (G : Hp) : V → D → Prop
  | non : Rep K G .non .non
  | bl (b : Bool) : Rep K G (.bl b) (.bl b)
  | int (i : Int) : Rep K G (.int i) (.int i)
  | str (x : Str) : Rep K G (.str x) (.str x)
  | lst {a : Addr} {xs : List V} {ds : List D} : SqL K G a xs → RepL K G xs ds → Rep K G (.ref a) (.lst ds)
  | tup {a : Addr} {xs : List V} {ds : List D} : SqT K G a xs → RepL K G xs ds → Rep K G (.ref a) (.tup ds)
  | ins {a C dx : Addr} {fs : List (Str × V)} {ds : List (Str × D)} : G a = some (.ins C dx fs) → RepF K G fs ds → Rep K G (.ref a) (.ins C ds)
  | dT {a : Addr} {o : Obj} {kvs : List (List Key × V)} {ds : List (List Key × D)} : G a = some (.frz o (.dT kvs)) → RepT K G kvs ds → Rep K G (.ref a) (.dT ds)
  | dK {a : Addr} {o : Obj} {kvs : List (Key × V)} {ds : List (Key × D)} : G a = some (.frz o (.dK kvs)) → RepK K G kvs ds → Rep K G (.ref a) (.dK ds)
  | raw (v : V) : Rep K G v (.raw v)
inductive RepL (K : PySem.W.Frag) (G : Hp) : List V → List D → Prop
  | nil : RepL K G [] []
  | cons {v : V} {vs : List V} {d : D} {ds : List D} : Rep K G v d → RepL K G vs ds → RepL K G (v :: vs) (d :: ds)
inductive RepF (K : PySem.W.Frag) (G : Hp) : List (Str × V) → List (Str × D) → Prop
  | nil : RepF K G [] []
  | cons {f : Str} {v : V} {vs : List (Str × V)} {d : D} {ds : List (Str × D)} : Rep K G v d → RepF K G vs ds → RepF K G ((f, v) :: vs) ((f, d) :: ds)
inductive RepT (K : PySem.W.Frag) (G : Hp) : List (List Key × V) → List (List Key × D) → Prop
  | nil : RepT K G [] []
  | cons {k : List Key} {v : V} {vs : List (List Key × V)} {d : D} {ds : List (List Key × D)} : Rep K G v d → RepT K G vs ds → RepT K G ((k, v) :: vs) ((k, d) :: ds)
inductive RepK (K : PySem.W.Frag) (G : Hp) : List (Key × V) → List (Key × D) → Prop
  | nil : RepK K G [] []
  | cons {k : Key} {v : V} {vs : List (Key × V)} {d : D} {ds : List (Key × D)} : Rep K G v d → RepK K G vs ds → RepK K G ((k, v) :: vs) ((k, d) :: ds)
end

def Le (H H' : Hp) : Prop := ∀ a o, H a = some o → H' a = some o
theorem Le.refl (H : Hp) : Le H H := fun _ _ h => h
theorem Le.trans {H H1 H2 : Hp} (a : Le H H1) (b : Le H1 H2) : Le H H2 := fun x o h => b x o (a x o h)
theorem Le.new {H : Hp} {p : Addr} {o : HO} (h : H p = none) : Le H (upd H p o) := fun a u e => by
  rw [upd_ne (ne_of_none e h)]
  exact e
theorem le_rd {H H' : Hp} {a : Addr} {u : HO} (e : Le H H') (h : Rd H a u) : Rd H' a u := by
  rcases h with h | ⟨o, h⟩
  · exact Or.inl (e a _ h)
  · exact Or.inr ⟨o, e a _ h⟩
theorem le_l {K : PySem.W.Frag} {H H' : Hp} {a : Addr} {xs : List V} (e : Le H H') (h : SqL K H a xs) : SqL K H' a xs := by
  rcases h with h | h
  · exact Or.inl (le_rd e h)
  · exact Or.inr h
theorem le_t {K : PySem.W.Frag} {H H' : Hp} {a : Addr} {xs : List V} (e : Le H H') (h : SqT K H a xs) : SqT K H' a xs := by
  rcases h with h | h
  · exact Or.inl (le_rd e h)
  · exact Or.inr h
mutual
theorem Rep.mono {K : PySem.W.Frag} {G G' : Hp} (e : Le G G') : ∀ {v : V} {d : D}, Rep K G v d → Rep K G' v d
  | _, _, .non => .non
  | _, _, .bl b => .bl b
  | _, _, .int b => .int b
  | _, _, .str b => .str b
  | _, _, .lst h r => .lst (le_l e h) (RepL.mono e r)
  | _, _, .tup h r => .tup (le_t e h) (RepL.mono e r)
  | _, _, .ins h r => .ins (e _ _ h) (RepF.mono e r)
  | _, _, .dT h r => .dT (e _ _ h) (RepT.mono e r)
  | _, _, .dK h r => .dK (e _ _ h) (RepK.mono e r)
  | _, _, .raw v => .raw v
theorem RepL.mono {K : PySem.W.Frag} {G G' : Hp} (e : Le G G') : ∀ {v : List V} {d : List D}, RepL K G v d → RepL K G' v d
  | _, _, .nil => .nil
  | _, _, .cons h r => .cons (Rep.mono e h) (RepL.mono e r)
theorem RepF.mono {K : PySem.W.Frag} {G G' : Hp} (e : Le G G') : ∀ {v : List (Str × V)} {d : List (Str × D)}, RepF K G v d → RepF K G' v d
  | _, _, .nil => .nil
  | _, _, .cons h r => .cons (Rep.mono e h) (RepF.mono e r)
theorem RepT.mono {K : PySem.W.Frag} {G G' : Hp} (e : Le G G') : ∀ {v : List (List Key × V)} {d : List (List Key × D)}, RepT K G v d → RepT K G' v d
  | _, _, .nil => .nil
  | _, _, .cons h r => .cons (Rep.mono e h) (RepT.mono e r)
theorem RepK.mono {K : PySem.W.Frag} {G G' : Hp} (e : Le G G') : ∀ {v : List (Key × V)} {d : List (Key × D)}, RepK K G v d → RepK K G' v d
  | _, _, .nil => .nil
  | _, _, .cons h r => .cons (Rep.mono e h) (RepK.mono e r)
end
theorem RepL.length {K : PySem.W.Frag} {G : Hp} : ∀ {v : List V} {d : List D}, RepL K G v d → v.length = d.length
  | _, _, .nil => rfl
  | _, _, .cons _ r => by simp [RepL.length r]
theorem RepL.get {K : PySem.W.Frag} {G : Hp} : ∀ {v : List V} {d : List D} {i : Nat} {x : D}, RepL K G v d → d[i]? = some x → ∃ u, v[i]? = some u ∧ Rep K G u x
  | _, _, i, _, .nil, e => by simp at e
  | _, _, 0, _, .cons h _, e => by simp at e; subst e; exact ⟨_, rfl, h⟩
  | _, _, i + 1, x, .cons _ r, e => by
    obtain ⟨u, h1, h2⟩ := RepL.get (i := i) (x := x) r (by simpa using e)
    exact ⟨u, by simpa using h1, h2⟩
theorem RepL.getV {K : PySem.W.Frag} {G : Hp} : ∀ {v : List V} {d : List D} {i : Nat} {u : V}, RepL K G v d → v[i]? = some u → ∃ x, d[i]? = some x ∧ Rep K G u x
  | _, _, i, _, .nil, e => by simp at e
  | _, _, 0, _, .cons h _, e => by simp at e; subst e; exact ⟨_, rfl, h⟩
  | _, _, i + 1, x, .cons _ r, e => by
    obtain ⟨u, h1, h2⟩ := RepL.getV (i := i) (u := x) r (by simpa using e)
    exact ⟨u, by simpa using h1, h2⟩
theorem RepL.append {K : PySem.W.Frag} {G : Hp} : ∀ {v w : List V} {d e : List D}, RepL K G v d → RepL K G w e → RepL K G (v ++ w) (d ++ e)
  | _, _, _, _, .nil, s => s
  | _, _, _, _, .cons h r, s => .cons h (RepL.append r s)

/-! ### slots -/
def RepS (K : PySem.W.Frag) (g : Gh) (v : V) : S → Prop
  | .d x => Rep K g.G v x
  | .p n => ∃ a, v = .ref a ∧ g.θ[n]? = some a
inductive RepSs (K : PySem.W.Frag) (g : Gh) : List V → List S → Prop
  | nil : RepSs K g [] []
  | cons {v : V} {vs : List V} {d : S} {ds : List S} : RepS K g v d → RepSs K g vs ds → RepSs K g (v :: vs) (d :: ds)
theorem RepSs.length {K : PySem.W.Frag} {g : Gh} : ∀ {v : List V} {d : List S}, RepSs K g v d → v.length = d.length
  | _, _, .nil => rfl
  | _, _, .cons _ r => by simp [RepSs.length r]
theorem RepSs.get {K : PySem.W.Frag} {g : Gh} : ∀ {v : List V} {d : List S} {i : Nat} {x : S}, RepSs K g v d → d[i]? = some x → ∃ u, v[i]? = some u ∧ RepS K g u x
  | _, _, i, _, .nil, e => by simp at e
  | _, _, 0, _, .cons h _, e => by simp at e; subst e; exact ⟨_, rfl, h⟩
  | _, _, i + 1, x, .cons _ r, e => by
    obtain ⟨u, h1, h2⟩ := RepSs.get (i := i) (x := x) r (by simpa using e)
    exact ⟨u, by simpa using h1, h2⟩
inductive RepSf (K : PySem.W.Frag) (g : Gh) : List (Str × V) → List (Str × S) → Prop
  | nil : RepSf K g [] []
  | cons {f : Str} {v : V} {vs : List (Str × V)} {d : S} {ds : List (Str × S)} : RepS K g v d → RepSf K g vs ds → RepSf K g ((f, v) :: vs) ((f, d) :: ds)
inductive RepSt (K : PySem.W.Frag) (g : Gh) {κ : Type} : List (κ × V) → List (κ × S) → Prop
  | nil : RepSt K g [] []
  | cons {f : κ} {v : V} {vs : List (κ × V)} {d : S} {ds : List (κ × S)} : RepS K g v d → RepSt K g vs ds → RepSt K g ((f, v) :: vs) ((f, d) :: ds)
structure Gle (g g' : Gh) : Prop where
  G : Le g.G g'.G
  θ : ∃ l, g'.θ = g.θ ++ l
theorem Gle.refl (g : Gh) : Gle g g := ⟨Le.refl _, [], by simp⟩
theorem Gle.trans {a b c : Gh} (h : Gle a b) (k : Gle b c) : Gle a c := ⟨h.G.trans k.G, by
  obtain ⟨l, e⟩ := h.θ
  obtain ⟨m, e'⟩ := k.θ
  exact ⟨l ++ m, by rw [e', e, List.append_assoc]⟩⟩
theorem Gle.get {a b : Gh} (h : Gle a b) {n : Nat} {x : Addr} (e : a.θ[n]? = some x) : b.θ[n]? = some x := by
  obtain ⟨l, q⟩ := h.θ
  rw [q, List.getElem?_append_left (List.getElem?_eq_some_iff.mp e).1]
  exact e
theorem rsI {K : PySem.W.Frag} {g : Gh} {i : Int} : RepS K g (.int i) (.d (.int i)) := Rep.int i
theorem rsB {K : PySem.W.Frag} {g : Gh} {i : Bool} : RepS K g (.bl i) (.d (.bl i)) := Rep.bl i
theorem rsS {K : PySem.W.Frag} {g : Gh} {i : Str} : RepS K g (.str i) (.d (.str i)) := Rep.str i
theorem rsN {K : PySem.W.Frag} {g : Gh} : RepS K g .non (.d .non) := Rep.non
theorem RepS.mono {K : PySem.W.Frag} {g g' : Gh} (e : Gle g g') {v : V} : ∀ {s : S}, RepS K g v s → RepS K g' v s
  | .d _, h => Rep.mono e.G h
  | .p _, ⟨a, h1, h2⟩ => ⟨a, h1, e.get h2⟩
theorem RepSs.mono {K : PySem.W.Frag} {g g' : Gh} (e : Gle g g') : ∀ {v : List V} {s : List S}, RepSs K g v s → RepSs K g' v s
  | _, _, .nil => .nil
  | _, _, .cons h r => .cons (h.mono e) (RepSs.mono e r)
theorem RepSf.mono {K : PySem.W.Frag} {g g' : Gh} (e : Gle g g') : ∀ {v : List (Str × V)} {s : List (Str × S)}, RepSf K g v s → RepSf K g' v s
  | _, _, .nil => .nil
  | _, _, .cons h r => .cons (h.mono e) (RepSf.mono e r)
theorem RepSt.mono {K : PySem.W.Frag} {g g' : Gh} {κ : Type} (e : Gle g g') : ∀ {v : List (κ × V)} {s : List (κ × S)}, RepSt K g v s → RepSt K g' v s
  | _, _, .nil => .nil
  | _, _, .cons h r => .cons (h.mono e) (RepSt.mono e r)
def Cont (K : PySem.W.Frag) (g : Gh) (H : Hp) (a : Addr) : C → Prop
  | .lst ds => ∃ xs, H a = some (.lst xs) ∧ RepSs K g xs ds
  | .ins C ds => ∃ dx fs, H a = some (.ins C dx fs) ∧ RepSf K g fs ds
  | .dT ds => ∃ kvs, H a = some (.dT kvs) ∧ RepSt K g kvs ds
  | .dK ds => ∃ kvs, H a = some (.dK kvs) ∧ RepSt K g kvs ds
  | .at f => H a = some (f a)
  | .dead => True
theorem Cont.mono {K : PySem.W.Frag} {g g' : Gh} {H H' : Hp} {a : Addr} (e : Gle g g') (h : ∀ o, H a = some o → H' a = some o) : ∀ {c : C}, Cont K g H a c → Cont K g' H' a c
  | .lst _, ⟨xs, h1, h2⟩ => ⟨xs, h _ h1, h2.mono e⟩
  | .ins _ _, ⟨dx, xs, h1, h2⟩ => ⟨dx, xs, h _ h1, h2.mono e⟩
  | .dT _, ⟨xs, h1, h2⟩ => ⟨xs, h _ h1, h2.mono e⟩
  | .dK _, ⟨xs, h1, h2⟩ => ⟨xs, h _ h1, h2.mono e⟩
  | .at _, h1 => h _ h1
  | .dead, _ => trivial

/-- what a def was called over: the heap, the data's part, the objects that it was handed to change -/
structure Fc where
  H0 : Hp
  G0 : Hp
  θ0 : List Addr

structure Sim (K : PySem.W.Frag) (F : Fc) (g : Gh) (ρ : Rho) (M : Mem) (σ : L2.St) (H : Hp) : Prop where
  sub : Le g.G H
  ln : ρ.length = σ.length
  sl : ∀ (i : Nat) (s : S), ρ[i]? = some (some s) → ∃ v, σ[i]? = some (some v) ∧ RepS K g v s
  ml : M.length = g.θ.length
  ob : ∀ (i : Nat) (c : C) (a : Addr), M[i]? = some c → g.θ[i]? = some a → Cont K g H a c
  nd : g.θ.Nodup
  tr : ∀ a ∈ g.θ, ∃ o, H a = some o
  go : ∀ (i : Nat) (c : C) (a : Addr), M[i]? = some c → g.θ[i]? = some a → c = C.dead ∨ g.G a = none
  pre : ∃ l, g.θ = F.θ0 ++ l
  fr : ∀ a o, F.H0 a = some o → a ∉ F.θ0 → H a = some o
  own : ∀ a ∈ g.θ, a ∈ F.θ0 ∨ F.H0 a = none
  gn : ∀ a o, g.G a = some o → F.G0 a = some o ∨ F.H0 a = none
  g0 : Le F.G0 g.G

/-! ### what a piece of the text does, by its readings -/
section
variable {X : Cx}
def tS (X : Cx) (e : Expr) : TE := fun σ H Q => ∀ pins s, Inv X pins σ H s → wpAny (model X.prog X.w) X.A (eval e X.env) (EP X pins σ Q) X.xe s
def tT (X : Cx) (e : Expr) : TT := fun σ H Q => ∀ pins s, Inv X pins σ H s → wpAny (model X.prog X.w) X.A (isTrue e X.env (eval e X.env)) (TP X pins σ Q) X.xe s
def tA (X : Cx) (es : List Expr) : TA := fun σ H Q => ∀ pos pins s, Inv X pins σ H s → wpAny (model X.prog X.w) X.A (spliced (backTo pos (starEach es X.env))) (AP X pins σ Q) X.xe s
def sS (X : Cx) (st : Stmt) : TS := fun Dn σ H => ∀ pins s, Inv X pins σ H s → wpAny (model X.prog X.w) X.A (exec st X.env) (SP X pins Dn) X.xe s
def sB (X : Cx) (st : List Stmt) : TS := fun Dn σ H => ∀ pins s, Inv X pins σ H s → wpAny (model X.prog X.w) X.A (execs st X.env) (SP X pins Dn) X.xe s
def oS (X : Cx) (f : Value → Value → Sem Value) : R2 := fun x y H Q => ∀ pins s σ v u, Inv X pins σ H s → RelV x v → RelV y u → wpAny (model X.prog X.w) X.A (f v u) (EP X pins σ Q) X.xe s
def cS (X : Cx) (f : Value) : List V → Hp → VK → Prop := fun xs H Q => ∀ pins s σ us, Inv X pins σ H s → Vals xs us → wpAny (model X.prog X.w) X.A (call f us) (EP X pins σ Q) X.xe s
theorem pe_s {e : Expr} : PE X e (tS X e) := ⟨fun pins s _ _ _ I h => h pins s I⟩
theorem pt_s {e : Expr} : PT X e (tT X e) := ⟨fun pins s _ _ _ I h => h pins s I⟩
theorem pa_s {e : List Expr} : PA X e (tA X e) := ⟨fun pos pins s _ _ _ I h => h pos pins s I⟩
theorem ps_s {e : Stmt} : PS X e (sS X e) := ⟨fun pins s _ _ _ I h => h pins s I⟩
theorem pb_s {e : List Stmt} : PSs X e (sB X e) := ⟨fun pins s _ _ _ I h => h pins s I⟩
theorem of_pe {e : Expr} {t : TE} {σ : L2.St} {H : Hp} {Q : VK} (p : PE X e t) (h : t σ H Q) : tS X e σ H Q := fun pins s I => p.run pins s σ H Q I h
theorem of_pt {e : Expr} {t : TT} {σ : L2.St} {H : Hp} {Q : Bool → Hp → Prop} (p : PT X e t) (h : t σ H Q) : tT X e σ H Q := fun pins s I => p.run pins s σ H Q I h
theorem of_pa {e : List Expr} {t : TA} {σ : L2.St} {H : Hp} {Q : List V → Hp → Prop} (p : PA X e t) (h : t σ H Q) : tA X e σ H Q := fun pos pins s I => p.run pos pins s σ H Q I h
theorem of_ps {e : Stmt} {t : TS} {σ : L2.St} {H : Hp} {Dn : Ends} (p : PS X e t) (h : t Dn σ H) : sS X e Dn σ H := fun pins s I => p.run pins s σ H Dn I h
theorem of_pb {e : List Stmt} {t : TS} {σ : L2.St} {H : Hp} {Dn : Ends} (p : PSs X e t) (h : t Dn σ H) : sB X e Dn σ H := fun pins s I => p.run pins s σ H Dn I h
theorem tS_mono {e : Expr} {σ : L2.St} {H : Hp} {Q Q' : VK} (h : tS X e σ H Q) (k : ∀ v H', Q v H' → Q' v H') : tS X e σ H Q' := fun pins s I =>
  thn (h pins s I) fun _ _ ⟨v, H', I', r, q⟩ => ⟨v, H', I', r, k v H' q⟩
theorem tT_mono {e : Expr} {σ : L2.St} {H : Hp} {Q Q' : Bool → Hp → Prop} (h : tT X e σ H Q) (k : ∀ v H', Q v H' → Q' v H') : tT X e σ H Q' := fun pins s I =>
  thn (h pins s I) fun _ _ ⟨H', I', q⟩ => ⟨H', I', k _ H' q⟩
theorem tA_mono {e : List Expr} {σ : L2.St} {H : Hp} {Q Q' : List V → Hp → Prop} (h : tA X e σ H Q) (k : ∀ v H', Q v H' → Q' v H') : tA X e σ H Q' := fun pos pins s I =>
  thn (h pos pins s I) fun _ _ ⟨v, H', I', r, q⟩ => ⟨v, H', I', r, k _ H' q⟩
structure ELe (a b : Ends) : Prop where
  nx : ∀ σ H, a.nx σ H → b.nx σ H
  rt : ∀ v H, a.rt v H → b.rt v H
  bk : ∀ σ H, a.bk σ H → b.bk σ H
  ct : ∀ σ H, a.ct σ H → b.ct σ H
theorem SP_mono {pins : List (Addr × Obj)} {a b : Ends} (k : ELe a b) {f : Flow} {s : Shared} (h : SP X pins a f s) : SP X pins b f s := by
  cases f with
  | next => obtain ⟨σ', H', I, q⟩ := h; exact ⟨σ', H', I, k.nx _ _ q⟩
  | brk => obtain ⟨σ', H', I, q⟩ := h; exact ⟨σ', H', I, k.bk _ _ q⟩
  | cont => obtain ⟨σ', H', I, q⟩ := h; exact ⟨σ', H', I, k.ct _ _ q⟩
  | ret u => obtain ⟨v, σ', H', I, r, q⟩ := h; exact ⟨v, σ', H', I, r, k.rt _ _ q⟩
theorem sS_mono {e : Stmt} {σ : L2.St} {H : Hp} {a b : Ends} (h : sS X e a σ H) (k : ELe a b) : sS X e b σ H := fun pins s I => thn (h pins s I) fun _ _ q => SP_mono k q
theorem sB_mono {e : List Stmt} {σ : L2.St} {H : Hp} {a b : Ends} (h : sB X e a σ H) (k : ELe a b) : sB X e b σ H := fun pins s I => thn (h pins s I) fun _ _ q => SP_mono k q
theorem opr_s {f : Value → Value → Sem Value} : OpR X f (oS X f) := fun pins s σ H x y v u Q I rx ry h => h pins s σ v u I rx ry
theorem of_op {f : Value → Value → Sem Value} {r : R2} {x y : V} {H : Hp} {Q : VK} (p : OpR X f r) (h : r x y H Q) : oS X f x y H Q := fun pins s σ v u I rx ry => p pins s σ H x y v u Q I rx ry h
theorem cr_s {f : Value} : CallR X f (cS X f) := fun pins s σ H xs us Q I r h => h pins s σ us I r
theorem of_cr {f : Value} {r : List V → Hp → VK → Prop} {xs : List V} {H : Hp} {Q : VK} (p : CallR X f r) (h : r xs H Q) : cS X f xs H Q := fun pins s σ us I rv => p pins s σ H xs us Q I rv h
end

/-! ### the judgements over data -/
def Post (K : PySem.W.Frag) (F : Fc) (ρ : Rho) (σ : L2.St) (g : Gh) (Q : S → Mem → Prop) : VK := fun v H' => ∃ d M' g', Gle g g' ∧ RepS K g' v d ∧ Sim K F g' ρ M' σ H' ∧ Q d M'
def PostT (K : PySem.W.Frag) (F : Fc) (ρ : Rho) (σ : L2.St) (g : Gh) (Q : Bool → Mem → Prop) : Bool → Hp → Prop := fun b H' => ∃ M' g', Gle g g' ∧ Sim K F g' ρ M' σ H' ∧ Q b M'
def PostA (K : PySem.W.Frag) (F : Fc) (ρ : Rho) (σ : L2.St) (g : Gh) (Q : List S → Mem → Prop) : List V → Hp → Prop := fun v H' => ∃ d M' g', Gle g g' ∧ RepSs K g' v d ∧ Sim K F g' ρ M' σ H' ∧ Q d M'
structure DEnds where
  nx : Rho → Mem → Prop
  rt : S → Mem → Prop
  bk : Rho → Mem → Prop := fun _ _ => False
  ct : Rho → Mem → Prop := fun _ _ => False
def EndsOf (K : PySem.W.Frag) (F : Fc) (g : Gh) (N : DEnds) : Ends where
  nx := fun σ H => ∃ ρ M g', Gle g g' ∧ Sim K F g' ρ M σ H ∧ N.nx ρ M
  rt := fun v H => ∃ d ρ M σ g', Gle g g' ∧ RepS K g' v d ∧ Sim K F g' ρ M σ H ∧ N.rt d M
  bk := fun σ H => ∃ ρ M g', Gle g g' ∧ Sim K F g' ρ M σ H ∧ N.bk ρ M
  ct := fun σ H => ∃ ρ M g', Gle g g' ∧ Sim K F g' ρ M σ H ∧ N.ct ρ M

structure DE (F : Fc) (X : Cx) (e : Expr) (ρ : Rho) (M : Mem) (Q : S → Mem → Prop) : Prop where
  run : ∀ g σ H, Sim X.K F g ρ M σ H → tS X e σ H (Post X.K F ρ σ g Q)
structure DT (F : Fc) (X : Cx) (e : Expr) (ρ : Rho) (M : Mem) (Q : Bool → Mem → Prop) : Prop where
  run : ∀ g σ H, Sim X.K F g ρ M σ H → tT X e σ H (PostT X.K F ρ σ g Q)
structure DA (F : Fc) (X : Cx) (e : List Expr) (ρ : Rho) (M : Mem) (Q : List S → Mem → Prop) : Prop where
  run : ∀ g σ H, Sim X.K F g ρ M σ H → tA X e σ H (PostA X.K F ρ σ g Q)
structure DS (F : Fc) (X : Cx) (e : Stmt) (ρ : Rho) (M : Mem) (N : DEnds) : Prop where
  run : ∀ g σ H, Sim X.K F g ρ M σ H → sS X e (EndsOf X.K F g N) σ H
structure DB (F : Fc) (X : Cx) (e : List Stmt) (ρ : Rho) (M : Mem) (N : DEnds) : Prop where
  run : ∀ g σ H, Sim X.K F g ρ M σ H → sB X e (EndsOf X.K F g N) σ H
/-- an operation, a call on values -/
structure BD (F : Fc) (X : Cx) (f : Value → Value → Sem Value) (x y : S) (ρ : Rho) (M : Mem) (Q : S → Mem → Prop) : Prop where
  run : ∀ g σ H u v, Sim X.K F g ρ M σ H → RepS X.K g u x → RepS X.K g v y → oS X f u v H (Post X.K F ρ σ g Q)
structure CD (F : Fc) (X : Cx) (f : Value) (xs : List S) (ρ : Rho) (M : Mem) (Q : S → Mem → Prop) : Prop where
  run : ∀ g σ H us, Sim X.K F g ρ M σ H → RepSs X.K g us xs → cS X f us H (Post X.K F ρ σ g Q)

section
variable {X : Cx} {F : Fc} {ρ : Rho} {M : Mem} {Q : S → Mem → Prop} {N : DEnds} {QT : Bool → Mem → Prop} {a b e : Expr} {es : List Expr} {st : Stmt} {rest : List Stmt} {pos : Pos}
theorem Post.le {K : PySem.W.Frag} {σ : L2.St} {g g1 : Gh} (h : Gle g g1) {v : V} {H : Hp} (p : Post K F ρ σ g1 Q v H) : Post K F ρ σ g Q v H := by
  obtain ⟨d, M', g', k, r⟩ := p
  exact ⟨d, M', g', h.trans k, r⟩
theorem PostT.le {K : PySem.W.Frag} {σ : L2.St} {Q : Bool → Mem → Prop} {g g1 : Gh} (h : Gle g g1) {v : Bool} {H : Hp} (p : PostT K F ρ σ g1 Q v H) : PostT K F ρ σ g Q v H := by
  obtain ⟨M', g', k, r⟩ := p
  exact ⟨M', g', h.trans k, r⟩
theorem PostA.le {K : PySem.W.Frag} {σ : L2.St} {Q : List S → Mem → Prop} {g g1 : Gh} (h : Gle g g1) {v : List V} {H : Hp} (p : PostA K F ρ σ g1 Q v H) : PostA K F ρ σ g Q v H := by
  obtain ⟨d, M', g', k, r⟩ := p
  exact ⟨d, M', g', h.trans k, r⟩
theorem EndsOf.le {K : PySem.W.Frag} {g g1 : Gh} (h : Gle g g1) : ELe (EndsOf K F g1 N) (EndsOf K F g N) :=
  ⟨fun _ _ ⟨ρ, M, g', k, r⟩ => ⟨ρ, M, g', h.trans k, r⟩, fun _ _ ⟨d, ρ, M, σ, g', k, r⟩ => ⟨d, ρ, M, σ, g', h.trans k, r⟩, fun _ _ ⟨ρ, M, g', k, r⟩ => ⟨ρ, M, g', h.trans k, r⟩, fun _ _ ⟨ρ, M, g', k, r⟩ => ⟨ρ, M, g', h.trans k, r⟩⟩

/-! #### expressions -/
theorem de_mono {Q' : S → Mem → Prop} (h : DE F X e ρ M Q) (k : ∀ s M, Q s M → Q' s M) : DE F X e ρ M Q' := ⟨fun g σ H S => tS_mono (h.run g σ H S) fun _ _ ⟨d, M', g', l, r, s, q⟩ => ⟨d, M', g', l, r, s, k _ _ q⟩⟩
theorem de_name {i : Nat} {x : Str} {s : S} (hN : X.N[i]? = some x) (hv : Vis X.env.scope x) (hs : ρ[i]? = some (some s)) (q : Q s M) (hd : (x == ("__debug__" : Str)) = false := by decide) (hcd : (x == ("__classdict__" : Str)) = false := by decide) :
    DE F X (.Name x pos) ρ M Q := ⟨fun g σ H Z => of_pe (pe_var hN hv hd hcd) (by
  obtain ⟨v, h1, h2⟩ := Z.sl i s hs
  exact ⟨v, h1, s, M, g, Gle.refl g, h2, Z, q⟩)⟩
theorem de_int {i : Int} {j : Nat} (q : Q (.d (.int i)) M) : DE F X (.Constant (.int i) j pos) ρ M Q := ⟨fun g σ H Z => of_pe pe_int ⟨.d (.int i), M, g, Gle.refl g, Rep.int i, Z, q⟩⟩
theorem de_bl {i : Bool} {j : Nat} (q : Q (.d (.bl i)) M) : DE F X (.Constant (.bool i) j pos) ρ M Q := ⟨fun g σ H Z => of_pe pe_bl ⟨.d (.bl i), M, g, Gle.refl g, Rep.bl i, Z, q⟩⟩
theorem de_non {j : Nat} (q : Q (.d .non) M) : DE F X (.Constant .none j pos) ρ M Q := ⟨fun g σ H Z => of_pe pe_non ⟨.d .non, M, g, Gle.refl g, Rep.non, Z, q⟩⟩
theorem de_str {i : Str} {j : Nat} (q : Q (.d (.str i)) M) : DE F X (.Constant (.str i) j pos) ρ M Q := ⟨fun g σ H Z => of_pe pe_str ⟨.d (.str i), M, g, Gle.refl g, Rep.str i, Z, q⟩⟩
theorem de_bin {op : Operator} (h : DE F X a ρ M fun x M1 => DE F X b ρ M1 fun y M2 => BD F X (binaryOp op) x y ρ M2 Q) : DE F X (.BinOp a op b pos) ρ M Q := ⟨fun g σ H Z => of_pe (pe_op opr_s pe_s pe_s) <|
  tS_mono (h.run g σ H Z) fun u H1 ⟨x, M1, g1, l1, r1, Z1, q1⟩ => tS_mono (q1.run g1 σ H1 Z1) fun v H2 ⟨y, M2, g2, l2, r2, Z2, q2⟩ => by
    have q := q2.run g2 σ H2 u v Z2 (r1.mono l2) r2
    intro pins s σ' v' u' I rx ry
    exact thn (q pins s σ' v' u' I rx ry) fun _ _ ⟨w, H', I', r, p⟩ => ⟨w, H', I', r, p.le (l1.trans l2)⟩⟩
theorem de_cmp {op : CmpOp} (h : DE F X a ρ M fun x M1 => DE F X b ρ M1 fun y M2 => BD F X (compareOp op) x y ρ M2 Q) (hm : behindInMarks op b = false) : DE F X (.Compare a [op] [b] pos) ρ M Q := ⟨fun g σ H Z => of_pe (pe_cmpR opr_s pe_s pe_s hm) <|
  tS_mono (h.run g σ H Z) fun u H1 ⟨x, M1, g1, l1, r1, Z1, q1⟩ => tS_mono (q1.run g1 σ H1 Z1) fun v H2 ⟨y, M2, g2, l2, r2, Z2, q2⟩ => by
    have q := q2.run g2 σ H2 u v Z2 (r1.mono l2) r2
    intro pins s σ' v' u' I rx ry
    exact thn (q pins s σ' v' u' I rx ry) fun _ _ ⟨w, H', I', r, p⟩ => ⟨w, H', I', r, p.le (l1.trans l2)⟩⟩

theorem post_at {K : PySem.W.Frag} {g : Gh} {σ : L2.St} {H : Hp} {v : V} {s : S} (Z : Sim K F g ρ M σ H) (r : RepS K g v s) (q : Q s M) : Post K F ρ σ g Q v H := ⟨s, M, g, Gle.refl g, r, Z, q⟩
/-- a two-place operation that makes no object -/
theorem bd_of {f : Value → Value → Sem Value} {r : R2} {x y : S} (p : OpR X f r) (h : ∀ g σ H u v, Sim X.K F g ρ M σ H → RepS X.K g u x → RepS X.K g v y → r u v H (Post X.K F ρ σ g Q)) : BD F X f x y ρ M Q := ⟨fun g σ H u v Z ru rv => of_op p (h g σ H u v Z ru rv)⟩
theorem rep_int {K : PySem.W.Frag} {G : Hp} {v : V} {i : Int} (h : Rep K G v (.int i)) : v = .int i := by cases h; rfl
theorem rep_bl {K : PySem.W.Frag} {G : Hp} {v : V} {i : Bool} (h : Rep K G v (.bl i)) : v = .bl i := by cases h; rfl
theorem rep_str {K : PySem.W.Frag} {G : Hp} {v : V} {i : Str} (h : Rep K G v (.str i)) : v = .str i := by cases h; rfl
theorem rep_non {K : PySem.W.Frag} {G : Hp} {v : V} (h : Rep K G v .non) : v = .non := by cases h; rfl
theorem rep_raw {K : PySem.W.Frag} {G : Hp} {v w : V} (h : Rep K G v (.raw w)) : v = w := by cases h; rfl
theorem bd_ii {f : Value → Value → Sem Value} {gg : Int → Int → V} {i j : Int} {s : S} (p : OpR X f (rI0 gg)) (hr : ∀ g, RepS X.K g (gg i j) s) (q : Q s M) : BD F X f (.d (.int i)) (.d (.int j)) ρ M Q := bd_of p fun g σ H u v Z ru rv => by
  rw [rep_int ru, rep_int rv]
  exact ⟨i, j, rfl, rfl, post_at Z (hr g) q⟩
theorem bd_iiC {f : Value → Value → Sem Value} {CC : Int → Int → Prop} {gg : Int → Int → V} {i j : Int} {s : S} (p : OpR X f (rI CC gg)) (hc : CC i j) (hr : ∀ g, RepS X.K g (gg i j) s) (q : Q s M) : BD F X f (.d (.int i)) (.d (.int j)) ρ M Q := bd_of p fun g σ H u v Z ru rv => by
  rw [rep_int ru, rep_int rv]
  exact ⟨i, j, rfl, rfl, hc, post_at Z (hr g) q⟩
theorem bd_add {i j : Int} (q : Q (.d (.int (i + j))) M) : BD F X (binaryOp .Add) (.d (.int i)) (.d (.int j)) ρ M Q := bd_ii op_add (fun _ => rsI) q
theorem bd_sub {i j : Int} (q : Q (.d (.int (i - j))) M) : BD F X (binaryOp .Sub) (.d (.int i)) (.d (.int j)) ρ M Q := bd_ii op_sub (fun _ => rsI) q
theorem bd_mul {i j : Int} (hc : CMul i j) (q : Q (.d (.int (i * j))) M) : BD F X (binaryOp .Mult) (.d (.int i)) (.d (.int j)) ρ M Q := bd_iiC op_mul hc (fun _ => rsI) q
theorem bd_mod {i j : Int} (hc : 0 < j) (q : Q (.d (.int (i % j))) M) : BD F X (binaryOp .Mod) (.d (.int i)) (.d (.int j)) ρ M Q := bd_iiC op_mod hc (fun _ => rsI) q
theorem bd_fdiv {i j : Int} (hc : CDiv i j) (q : Q (.d (.int (i / j))) M) : BD F X (binaryOp .FloorDiv) (.d (.int i)) (.d (.int j)) ρ M Q := bd_iiC op_fdiv hc (fun _ => rsI) q
theorem bd_lt {i j : Int} (q : Q (.d (.bl (decide (i < j)))) M) : BD F X (compareOp .Lt) (.d (.int i)) (.d (.int j)) ρ M Q := bd_ii op_lt (fun _ => rsB) q
theorem bd_le {i j : Int} (q : Q (.d (.bl (decide (i ≤ j)))) M) : BD F X (compareOp .LtE) (.d (.int i)) (.d (.int j)) ρ M Q := bd_ii op_le (fun _ => rsB) q
theorem bd_gt {i j : Int} (q : Q (.d (.bl (decide (j < i)))) M) : BD F X (compareOp .Gt) (.d (.int i)) (.d (.int j)) ρ M Q := bd_ii op_gt (fun _ => rsB) q
theorem bd_ge {i j : Int} (q : Q (.d (.bl (decide (j ≤ i)))) M) : BD F X (compareOp .GtE) (.d (.int i)) (.d (.int j)) ρ M Q := bd_ii op_ge (fun _ => rsB) q
theorem bd_eqI {i j : Int} (q : Q (.d (.bl (decide (i = j)))) M) : BD F X (compareOp .Eq) (.d (.int i)) (.d (.int j)) ρ M Q := bd_of op_eq fun g σ H u v Z ru rv => by
  rw [rep_int ru, rep_int rv]
  refine ⟨rfl, post_at Z rsB ?_⟩
  rw [dec_int, Bool.beq_eq_decide_eq]
  exact q
theorem bd_neI {i j : Int} (q : Q (.d (.bl (!decide (i = j)))) M) : BD F X (compareOp .NotEq) (.d (.int i)) (.d (.int j)) ρ M Q := bd_of op_ne fun g σ H u v Z ru rv => by
  rw [rep_int ru, rep_int rv]
  refine ⟨rfl, post_at Z rsB ?_⟩
  rw [dec_int, Bool.beq_eq_decide_eq]
  exact q
theorem bd_eqS {i j : Str} (q : Q (.d (.bl (decide (i = j)))) M) : BD F X (compareOp .Eq) (.d (.str i)) (.d (.str j)) ρ M Q := bd_of op_eq fun g σ H u v Z ru rv => by
  rw [rep_str ru, rep_str rv]
  refine ⟨rfl, post_at Z rsB ?_⟩
  rw [dec_str, Bool.beq_eq_decide_eq]
  exact q
theorem bd_neS {i j : Str} (q : Q (.d (.bl (!decide (i = j)))) M) : BD F X (compareOp .NotEq) (.d (.str i)) (.d (.str j)) ρ M Q := bd_of op_ne fun g σ H u v Z ru rv => by
  rw [rep_str ru, rep_str rv]
  refine ⟨rfl, post_at Z rsB ?_⟩
  rw [dec_str, Bool.beq_eq_decide_eq]
  exact q
theorem bd_addS {i j : Str} (hl : i.length + j.length ≤ sizeLine) (q : Q (.d (.str (i ++ j))) M) : BD F X (binaryOp .Add) (.d (.str i)) (.d (.str j)) ρ M Q := bd_of op_add_str fun g σ H u v Z ru rv => by
  rw [rep_str ru, rep_str rv]
  exact ⟨i, j, rfl, rfl, hl, post_at Z rsS q⟩

/-! #### tests -/
theorem dt_val (h : DE F X e ρ M fun s M' => ∃ b, s = .d (.bl b) ∧ QT b M') (he : ∀ whole, isTrue e X.env whole = (do let v ← whole; standAt e.pos; holding [v] (truthy v))) : DT F X e ρ M QT := ⟨fun g σ H Z => of_pt (pt_val pe_s he) <|
  tS_mono (h.run g σ H Z) fun v H1 ⟨s, M', g', l, r, Z', b, es, q⟩ => by
    subst es
    exact ⟨b, rep_bl r, M', g', l, Z', q⟩⟩
theorem dt_cmp {op : CmpOp} (h : DE F X a ρ M fun x M1 => DE F X b ρ M1 fun y M2 => BD F X (compareOp op) x y ρ M2 fun s M' => ∃ b, s = .d (.bl b) ∧ QT b M') (hm : behindInMarks op b = false) : DT F X (.Compare a [op] [b] pos) ρ M QT := ⟨fun g σ H Z => of_pt (pt_cmpR opr_s pe_s pe_s hm) <|
  tS_mono (h.run g σ H Z) fun u H1 ⟨x, M1, g1, l1, r1, Z1, q1⟩ => tS_mono (q1.run g1 σ H1 Z1) fun v H2 ⟨y, M2, g2, l2, r2, Z2, q2⟩ => by
    have q := q2.run g2 σ H2 u v Z2 (r1.mono l2) r2
    intro pins s σ' v' u' I rx ry
    refine thn (q pins s σ' v' u' I rx ry) fun _ _ ⟨w, H', I', r, p⟩ => ⟨w, H', I', r, ?_⟩
    obtain ⟨s, M', g', l, rr, Z', b, es, q⟩ := p
    subst es
    exact ⟨b, rep_bl rr, M', g', (l1.trans l2).trans l, Z', q⟩⟩
def tW (X : Cx) (e : Expr) : TT := fun σ H Q => ∀ whole pins s, Inv X pins σ H s → wpAny (model X.prog X.w) X.A (isTrue e X.env whole) (TP X pins σ Q) X.xe s
theorem pw_s {e : Expr} : PW X e (tW X e) := ⟨fun whole pins s _ _ _ I h => h whole pins s I⟩
theorem of_pw {e : Expr} {t : TT} {σ : L2.St} {H : Hp} {Q : Bool → Hp → Prop} (p : PW X e t) (h : t σ H Q) : tW X e σ H Q := fun whole pins s I => p.run whole pins s σ H Q I h
structure DW (F : Fc) (X : Cx) (e : Expr) (ρ : Rho) (M : Mem) (Q : Bool → Mem → Prop) : Prop where
  run : ∀ g σ H, Sim X.K F g ρ M σ H → tW X e σ H (PostT X.K F ρ σ g Q)
theorem tW_mono {e : Expr} {σ : L2.St} {H : Hp} {Q Q' : Bool → Hp → Prop} (h : tW X e σ H Q) (k : ∀ v H', Q v H' → Q' v H') : tW X e σ H Q' := fun wh pins s I =>
  thn (h wh pins s I) fun _ _ ⟨H', I', q⟩ => ⟨H', I', k _ H' q⟩
theorem dt_w (h : DW F X e ρ M QT) : DT F X e ρ M QT := ⟨fun g σ H Z => of_pt (PW.pt pw_s) (h.run g σ H Z)⟩
theorem dw_and1 (h : DT F X a ρ M QT) : DW F X (.BoolOp .And [a] pos) ρ M QT := ⟨fun g σ H Z => of_pw (pw_and1 pt_s) (h.run g σ H Z)⟩
theorem dw_or1 (h : DT F X a ρ M QT) : DW F X (.BoolOp .Or [a] pos) ρ M QT := ⟨fun g σ H Z => of_pw (pw_or1 pt_s) (h.run g σ H Z)⟩
theorem dw_and (h : DT F X a ρ M fun c M' => (c = true → DW F X (.BoolOp .And (b :: es) pos) ρ M' QT) ∧ (c = false → QT false M')) : DW F X (.BoolOp .And (a :: b :: es) pos) ρ M QT := ⟨fun g σ H Z => of_pw (pw_and pt_s pw_s) <|
  tT_mono (h.run g σ H Z) fun c H1 ⟨M', g', l, Z', q1, q2⟩ => by
    cases c with
    | true => exact tW_mono ((q1 rfl).run g' σ H1 Z') fun _ _ p => p.le l
    | false => exact ⟨M', g', l, Z', q2 rfl⟩⟩
theorem dw_or (h : DT F X a ρ M fun c M' => (c = true → QT true M') ∧ (c = false → DW F X (.BoolOp .Or (b :: es) pos) ρ M' QT)) : DW F X (.BoolOp .Or (a :: b :: es) pos) ρ M QT := ⟨fun g σ H Z => of_pw (pw_or pt_s pw_s) <|
  tT_mono (h.run g σ H Z) fun c H1 ⟨M', g', l, Z', q1, q2⟩ => by
    cases c with
    | true => exact ⟨M', g', l, Z', q1 rfl⟩
    | false => exact tW_mono ((q2 rfl).run g' σ H1 Z') fun _ _ p => p.le l⟩
theorem dt_not (h : DT F X a ρ M fun c M' => QT (!c) M') : DT F X (.UnaryOp .Not a pos) ρ M QT := ⟨fun g σ H Z => of_pt (pt_not pt_s) (h.run g σ H Z)⟩
/-! .. as values -/
theorem de_one {op} (h : DE F X a ρ M Q) : DE F X (.BoolOp op [a] pos) ρ M Q := ⟨fun g σ H Z => of_pe (pe_one pe_s) (h.run g σ H Z)⟩
theorem de_and (h : DE F X a ρ M fun s M' => ∃ c, s = .d (.bl c) ∧ (c = true → DE F X (.BoolOp .And (b :: es) pos) ρ M' Q) ∧ (c = false → Q (.d (.bl false)) M')) : DE F X (.BoolOp .And (a :: b :: es) pos) ρ M Q := ⟨fun g σ H Z => of_pe (pe_and pe_s pe_s) <|
  tS_mono (h.run g σ H Z) fun v H1 ⟨s, M', g', l, r, Z', c, e, q1, q2⟩ => by
    subst e
    refine ⟨c, rep_bl r, ?_⟩
    cases c with
    | true => exact tS_mono ((q1 rfl).run g' σ H1 Z') fun _ _ p => p.le l
    | false => exact ⟨.d (.bl false), M', g', l, rsB, Z', q2 rfl⟩⟩
theorem de_or (h : DE F X a ρ M fun s M' => ∃ c, s = .d (.bl c) ∧ (c = true → Q (.d (.bl true)) M') ∧ (c = false → DE F X (.BoolOp .Or (b :: es) pos) ρ M' Q)) : DE F X (.BoolOp .Or (a :: b :: es) pos) ρ M Q := ⟨fun g σ H Z => of_pe (pe_or pe_s pe_s) <|
  tS_mono (h.run g σ H Z) fun v H1 ⟨s, M', g', l, r, Z', c, e, q1, q2⟩ => by
    subst e
    refine ⟨c, rep_bl r, ?_⟩
    cases c with
    | true => exact ⟨.d (.bl true), M', g', l, rsB, Z', q1 rfl⟩
    | false => exact tS_mono ((q2 rfl).run g' σ H1 Z') fun _ _ p => p.le l⟩
theorem de_not (h : DE F X a ρ M fun s M' => ∃ c, s = .d (.bl c) ∧ Q (.d (.bl (!c))) M') : DE F X (.UnaryOp .Not a pos) ρ M Q := ⟨fun g σ H Z => of_pe (pe_not pe_s) <|
  tS_mono (h.run g σ H Z) fun v H1 ⟨s, M', g', l, r, Z', c, e, q⟩ => by
    subst e
    exact ⟨c, rep_bl r, .d (.bl (!c)), M', g', l, rsB, Z', q⟩⟩
theorem de_if {c : Expr} (h : DT F X c ρ M fun k M' => (k = true → DE F X a ρ M' Q) ∧ (k = false → DE F X b ρ M' Q)) : DE F X (.IfExp c a b pos) ρ M Q := ⟨fun g σ H Z => of_pe (pe_ifExp pt_s pe_s pe_s) <|
  tT_mono (h.run g σ H Z) fun k H1 ⟨M', g', l, Z', q1, q2⟩ => by
    cases k with
    | true => exact tS_mono ((q1 rfl).run g' σ H1 Z') fun _ _ p => p.le l
    | false => exact tS_mono ((q2 rfl).run g' σ H1 Z') fun _ _ p => p.le l⟩

/-! #### arguments, displays -/
theorem da_nil {QA : List S → Mem → Prop} (q : QA [] M) : DA F X [] ρ M QA := ⟨fun g σ H Z => of_pa pa_nil ⟨[], M, g, Gle.refl g, .nil, Z, q⟩⟩
theorem da_cons {QA : List S → Mem → Prop} (h : DE F X e ρ M fun s M' => DA F X es ρ M' fun ss M'' => QA (s :: ss) M'') (hs : starEach (e :: es) X.env = (false, eval e X.env) :: starEach es X.env) : DA F X (e :: es) ρ M QA := ⟨fun g σ H Z => of_pa (pa_cons pe_s pa_s hs) <|
  tS_mono (h.run g σ H Z) fun v H1 ⟨s, M', g', l, r, Z', q⟩ => tA_mono (q.run g' σ H1 Z') fun vs H2 ⟨ss, M2, g2, l2, r2, Z2, q2⟩ => ⟨s :: ss, M2, g2, l.trans l2, .cons (r.mono l2) r2, Z2, q2⟩⟩
end

/-! ### the state's changes -/
theorem Cont.some {K : PySem.W.Frag} {g : Gh} {H : Hp} {a : Addr} : ∀ {c : C}, c ≠ .dead → Cont K g H a c → ∃ o, H a = Option.some o
  | .lst _, _, ⟨_, h, _⟩ => ⟨_, h⟩
  | .ins _ _, _, ⟨_, _, h, _⟩ => ⟨_, h⟩
  | .dT _, _, ⟨_, h, _⟩ => ⟨_, h⟩
  | .dK _, _, ⟨_, h, _⟩ => ⟨_, h⟩
  | .at _, _, h => ⟨_, h⟩
  | .dead, h, _ => absurd rfl h
section
variable {K : PySem.W.Frag} {F : Fc} {g : Gh} {ρ : Rho} {M : Mem} {σ : L2.St} {H : Hp}
theorem Sim.fresh (Z : Sim K F g ρ M σ H) {p : Addr} (hp : H p = none) : g.G p = none ∧ p ∉ g.θ ∧ F.H0 p = none := by
  have h1 : g.G p = none := by
    cases e : g.G p with
    | none => rfl
    | some o => rw [Z.sub _ _ e] at hp; cases hp
  have h2 : p ∉ g.θ := fun h => by
    obtain ⟨o, e⟩ := Z.tr p h
    rw [e] at hp; cases hp
  refine ⟨h1, h2, ?_⟩
  cases e : F.H0 p with
  | none => rfl
  | some o =>
    obtain ⟨l, el⟩ := Z.pre
    have : p ∉ F.θ0 := fun h => h2 (by rw [el]; exact List.mem_append_left _ h)
    rw [Z.fr _ _ e this] at hp
    cases hp
/-- new data -/
theorem Sim.allocD (Z : Sim K F g ρ M σ H) {p : Addr} {o : HO} (hp : H p = none) : Sim K F ⟨upd g.G p o, g.θ⟩ ρ M σ (upd H p o) ∧ Gle g ⟨upd g.G p o, g.θ⟩ := by
  obtain ⟨f1, f2, f3⟩ := Z.fresh hp
  have L : Gle g ⟨upd g.G p o, g.θ⟩ := ⟨Le.new f1, [], by simp⟩
  have neθ : ∀ a ∈ g.θ, a ≠ p := fun a h e => f2 (e ▸ h)
  refine ⟨⟨fun a u e => ?_, Z.ln, fun i s e => ?_, Z.ml, fun i c a e1 e2 => ?_, Z.nd, fun a h => ?_, fun i c a e1 e2 => ?_, Z.pre, fun a u e h => ?_, Z.own, fun a u e => ?_, Z.g0.trans L.G⟩, L⟩
  · have e : upd g.G p o a = some u := e
    by_cases h : a = p
    · subst h; rw [upd_same] at e ⊢; exact e
    · rw [upd_ne h] at e ⊢; exact Z.sub _ _ e
  · obtain ⟨v, h1, h2⟩ := Z.sl i s e
    exact ⟨v, h1, h2.mono L⟩
  · exact (Z.ob i c a e1 e2).mono L (fun u e => by rw [upd_ne (neθ a (List.mem_of_getElem? e2))]; exact e)
  · obtain ⟨u, e⟩ := Z.tr a h
    exact ⟨u, by rw [upd_ne (neθ a h)]; exact e⟩
  · rcases Z.go i c a e1 e2 with h | h
    · exact .inl h
    · exact .inr (by show upd g.G p o a = none; rw [upd_ne (neθ a (List.mem_of_getElem? e2))]; exact h)
  · have q := Z.fr a u e h
    rw [upd_ne (ne_of_none q hp)]; exact q
  · by_cases h : a = p
    · subst h; exact .inr f3
    · have e' : upd g.G p o a = some u := e
      rw [upd_ne h] at e'; exact Z.gn _ _ e'
/-- a new object that may change -/
theorem Sim.allocP (Z : Sim K F g ρ M σ H) {p : Addr} {o : HO} {c : C} (hp : H p = none) (hc : Cont K ⟨g.G, g.θ ++ [p]⟩ (upd H p o) p c) : Sim K F ⟨g.G, g.θ ++ [p]⟩ ρ (M ++ [c]) σ (upd H p o) ∧ Gle g ⟨g.G, g.θ ++ [p]⟩ := by
  obtain ⟨f1, f2, f3⟩ := Z.fresh hp
  have L : Gle g ⟨g.G, g.θ ++ [p]⟩ := ⟨Le.refl _, [p], rfl⟩
  have neθ : ∀ a ∈ g.θ, a ≠ p := fun a h e => f2 (e ▸ h)
  have key : ∀ (i : Nat) (c' : C) (a : Addr), (M ++ [c])[i]? = some c' → (g.θ ++ [p])[i]? = some a → (M[i]? = some c' ∧ g.θ[i]? = some a) ∨ (c' = c ∧ a = p) := fun i c' a e1 e2 => by
    by_cases h : i < M.length
    · rw [List.getElem?_append_left h] at e1
      rw [List.getElem?_append_left (by rw [← Z.ml]; exact h)] at e2
      exact .inl ⟨e1, e2⟩
    · rw [List.getElem?_append_right (by omega)] at e1
      rw [List.getElem?_append_right (by rw [← Z.ml]; omega)] at e2
      rw [← Z.ml] at e2
      by_cases h0 : i - M.length = 0
      · rw [h0] at e1 e2
        exact .inr ⟨(Option.some.inj e1).symm, (Option.some.inj e2).symm⟩
      · rw [List.getElem?_eq_none (by simp; omega)] at e1; cases e1
  refine ⟨⟨fun a u e => ?_, Z.ln, fun i s e => ?_, by simp [Z.ml], fun i c' a e1 e2 => ?_, ?_, fun a h => ?_, fun i c' a e1 e2 => ?_, ?_, fun a u e h => ?_, fun a h => ?_, Z.gn, Z.g0⟩, L⟩
  · have q := Z.sub a u e
    rw [upd_ne (ne_of_none q hp)]; exact q
  · obtain ⟨v, h1, h2⟩ := Z.sl i s e
    exact ⟨v, h1, h2.mono L⟩
  · rcases key i c' a e1 e2 with ⟨h1, h2⟩ | ⟨rfl, rfl⟩
    · exact (Z.ob i c' a h1 h2).mono L (fun u e => by rw [upd_ne (neθ a (List.mem_of_getElem? h2))]; exact e)
    · exact hc
  · show (g.θ ++ [p]).Nodup
    rw [List.nodup_append]
    exact ⟨Z.nd, by simp, fun a h b hb => by simp at hb; subst hb; exact neθ a h⟩
  · rcases List.mem_append.mp h with h | h
    · obtain ⟨u, e⟩ := Z.tr a h
      exact ⟨u, by rw [upd_ne (neθ a h)]; exact e⟩
    · simp at h; subst h; exact ⟨o, upd_same⟩
  · rcases key i c' a e1 e2 with ⟨h1, h2⟩ | ⟨rfl, rfl⟩
    · exact Z.go i c' a h1 h2
    · exact .inr f1
  · obtain ⟨l, e⟩ := Z.pre
    exact ⟨l ++ [p], by show g.θ ++ [p] = _; rw [e, List.append_assoc]⟩
  · have q := Z.fr a u e h
    rw [upd_ne (ne_of_none q hp)]; exact q
  · rcases List.mem_append.mp h with h | h
    · exact Z.own a h
    · simp at h; subst h; exact .inr f3
theorem nodup_get {l : List Addr} (h : l.Nodup) {i j : Nat} {a : Addr} (e1 : l[i]? = some a) (e2 : l[j]? = some a) : i = j := by
  obtain ⟨h1, q1⟩ := List.getElem?_eq_some_iff.mp e1
  obtain ⟨h2, q2⟩ := List.getElem?_eq_some_iff.mp e2
  exact (List.getElem_inj h).mp (q1.trans q2.symm)
/-- an object is changed -/
theorem Sim.write (Z : Sim K F g ρ M σ H) {n : Nat} {a : Addr} {c c' : C} {o : HO} (e : M[n]? = some c) (ea : g.θ[n]? = some a) (hd : c ≠ .dead) (hc : Cont K g (upd H a o) a c') : Sim K F g ρ (M.set n c') σ (upd H a o) := by
  have ga : g.G a = none := (Z.go n c a e ea).resolve_left hd
  have ne : ∀ b u, g.G b = some u → b ≠ a := fun b u h q => by rw [q, ga] at h; cases h
  have hn : n < M.length := (List.getElem?_eq_some_iff.mp e).1
  have key : ∀ (i : Nat) (x : C) (b : Addr), (M.set n c')[i]? = some x → g.θ[i]? = some b → (i ≠ n ∧ b ≠ a ∧ M[i]? = some x) ∨ (i = n ∧ x = c' ∧ b = a) := fun i x b h1 h2 => by
    by_cases hi : i = n
    · subst hi
      rw [List.getElem?_set_self hn] at h1
      rw [ea] at h2
      exact .inr ⟨rfl, (Option.some.inj h1).symm, (Option.some.inj h2).symm⟩
    · rw [List.getElem?_set_ne (Ne.symm hi)] at h1
      exact .inl ⟨hi, fun q => hi (nodup_get Z.nd h2 (q ▸ ea)), h1⟩
  refine ⟨fun b u h => by rw [upd_ne (ne b u h)]; exact Z.sub b u h, Z.ln, Z.sl, by simp [Z.ml], fun i x b h1 h2 => ?_, Z.nd, fun b h => ?_, fun i x b h1 h2 => ?_, Z.pre, fun b u h hb => ?_, Z.own, Z.gn, Z.g0⟩
  · rcases key i x b h1 h2 with ⟨_, q, h⟩ | ⟨_, rfl, rfl⟩
    · exact (Z.ob i x b h h2).mono (Gle.refl g) fun u hu => by rw [upd_ne q]; exact hu
    · exact hc
  · by_cases q : b = a
    · subst q; exact ⟨o, upd_same⟩
    · rw [upd_ne q]; exact Z.tr b h
  · rcases key i x b h1 h2 with ⟨_, q, h⟩ | ⟨_, rfl, rfl⟩
    · exact Z.go i x b h h2
    · exact .inr ga
  · have q := Z.fr b u h hb
    have : b ≠ a := fun z => by
      subst z
      rcases Z.own b (List.mem_of_getElem? ea) with z | z
      · exact hb z
      · rw [z] at h; cases h
    rw [upd_ne this]; exact q
theorem Sim.set (Z : Sim K F g ρ M σ H) {i : Nat} {v : V} {s : S} (r : RepS K g v s) : Sim K F g (ρ.set i (some s)) M (σ.set i (some v)) H := by
  refine { Z with ln := by simp [Z.ln], sl := fun j t e => ?_ }
  by_cases h : i = j
  · subst h
    by_cases hi : i < ρ.length
    · rw [List.getElem?_set_self hi] at e
      injection e with e; injection e with e; subst e
      exact ⟨v, by rw [List.getElem?_set_self (by rw [← Z.ln]; exact hi)], r⟩
    · rw [List.getElem?_eq_none (by simp; omega)] at e; cases e
  · rw [List.getElem?_set_ne h] at e
    obtain ⟨w, h1, h2⟩ := Z.sl j t e
    exact ⟨w, by rw [List.getElem?_set_ne h]; exact h1, h2⟩
end

/-! ### data seen through slots -/
def datas : List S → Option (List D)
  | [] => some []
  | .d x :: r => (datas r).map (x :: ·)
  | .p _ :: _ => none
def viewC : Option C → Option D
  | some (.lst ss) => (datas ss).map D.lst
  | _ => none
def view (M : Mem) : S → Option D
  | .d x => some x
  | .p n => viewC M[n]?
theorem repSs_datas {K : PySem.W.Frag} {g : Gh} : ∀ {vs : List V} {ss : List S} {ds : List D}, RepSs K g vs ss → datas ss = some ds → RepL K g.G vs ds
  | _, _, ds, .nil, e => by
    have : ds = [] := (Option.some.inj e).symm
    subst this; exact .nil
  | _, _, ds, .cons (d := .d x) (ds := r) h t, e => by
    cases q : datas r with
    | none => simp [datas, q] at e
    | some l =>
      simp [datas, q] at e
      subst e
      exact .cons h (repSs_datas t q)
  | _, _, ds, .cons (d := .p n) (ds := r) h t, e => by simp [datas] at e
theorem datas_map : ∀ ds : List D, datas (ds.map S.d) = some ds
  | [] => rfl
  | x :: r => by simp [datas, datas_map r]
theorem datas_len : ∀ {ss : List S} {ds : List D}, datas ss = some ds → ss.length = ds.length
  | [], ds, e => by
    have : ds = [] := (Option.some.inj e).symm
    subst this; rfl
  | .d x :: r, ds, e => by
    cases q : datas r with
    | none => simp [datas, q] at e
    | some l =>
      simp [datas, q] at e
      subst e
      simp [datas_len q]
  | .p n :: r, ds, e => by simp [datas] at e
theorem RepL.ss {K : PySem.W.Frag} {g : Gh} : ∀ {vs : List V} {ds : List D}, RepL K g.G vs ds → RepSs K g vs (ds.map S.d)
  | _, _, .nil => .nil
  | _, _, .cons h r => .cons (d := .d _) h (RepL.ss r)
section
variable {K : PySem.W.Frag} {F : Fc} {g : Gh} {ρ : Rho} {M : Mem} {σ : L2.St} {H : Hp} {v : V} {s : S} {ds : List D}
/-- a list that is read -/
theorem Sim.lst (Z : Sim K F g ρ M σ H) (r : RepS K g v s) (h : view M s = some (.lst ds)) : ∃ a xs, v = .ref a ∧ SqL K H a xs ∧ RepL K g.G xs ds := by
  cases s with
  | d x =>
    have e : x = .lst ds := Option.some.inj h
    subst e
    have r : Rep K g.G v (.lst ds) := r
    cases r with
    | lst h1 h2 => exact ⟨_, _, rfl, le_l Z.sub h1, h2⟩
  | p n =>
    obtain ⟨a, rfl, ea⟩ := r
    have h : viewC M[n]? = some (.lst ds) := h
    cases em : M[n]? with
    | none => rw [em] at h; cases h
    | some c =>
      rw [em] at h
      cases c with
      | lst ss =>
        have h : (datas ss).map D.lst = some (.lst ds) := h
        cases q : datas ss with
        | none => rw [q] at h; cases h
        | some l =>
          rw [q] at h
          injection h with h
          injection h with h
          subst h
          obtain ⟨xs, h1, h2⟩ := Z.ob n _ a em ea
          exact ⟨a, xs, rfl, SqL.of h1, repSs_datas h2 q⟩
      | _ => cases h
theorem Sim.tup (Z : Sim K F g ρ M σ H) (r : RepS K g v (.d (.tup ds))) : ∃ a xs, v = .ref a ∧ SqT K H a xs ∧ RepL K g.G xs ds := by
  have r : Rep K g.G v (.tup ds) := r
  cases r with
  | tup h1 h2 => exact ⟨_, _, rfl, le_t Z.sub h1, h2⟩
/-- a list turned into data -/
theorem Sim.freeze (Z : Sim K F g ρ M σ H) {n : Nat} {ss : List S} (e : M[n]? = some (.lst ss)) (hd : datas ss = some ds) (hn : F.θ0.length ≤ n) :
    ∃ a G', g.θ[n]? = some a ∧ Sim K F ⟨G', g.θ⟩ ρ (M.set n .dead) σ H ∧ Gle g ⟨G', g.θ⟩ ∧ Rep K G' (.ref a) (.lst ds) := by
  have hl : n < g.θ.length := by rw [← Z.ml]; exact (List.getElem?_eq_some_iff.mp e).1
  refine ⟨g.θ[n], ?_⟩
  have ea : g.θ[n]? = some g.θ[n] := List.getElem?_eq_getElem hl
  generalize g.θ[n] = a at ea
  obtain ⟨xs, h1, h2⟩ := Z.ob n _ a e ea
  have h2 : RepL K g.G xs ds := repSs_datas h2 hd
  have ga : g.G a = none := (Z.go n _ a e ea).resolve_left (by intro h; cases h)
  obtain ⟨l, el⟩ := Z.pre
  have a0 : a ∉ F.θ0 := fun h => by
    obtain ⟨j, hj, ej⟩ := List.getElem_of_mem h
    have q : g.θ[j]? = some a := by
      rw [el, List.getElem?_append_left hj, List.getElem?_eq_getElem hj, ej]
    have := nodup_get Z.nd q ea
    omega
  have h0 : F.H0 a = none := (Z.own a (List.mem_of_getElem? ea)).resolve_left a0
  have L : Gle g ⟨upd g.G a (.lst xs), g.θ⟩ := ⟨Le.new ga, [], by simp⟩
  refine ⟨upd g.G a (.lst xs), ea, ⟨fun b u h => ?_, Z.ln, fun i s q => ?_, by simp [Z.ml], fun i c b q1 q2 => ?_, Z.nd, Z.tr, fun i c b q1 q2 => ?_, Z.pre, Z.fr, Z.own, fun b u h => ?_, Z.g0.trans L.G⟩, L, .lst (SqL.of upd_same) (RepL.mono L.G h2)⟩
  · have h : upd g.G a (.lst xs) b = some u := h
    by_cases q : b = a
    · subst q; rw [upd_same] at h; cases h; exact h1
    · rw [upd_ne q] at h; exact Z.sub _ _ h
  · obtain ⟨w, k1, k2⟩ := Z.sl i s q
    exact ⟨w, k1, k2.mono L⟩
  · by_cases hi : i = n
    · subst hi
      rw [List.getElem?_set_self (by rw [Z.ml]; exact hl)] at q1
      cases q1; trivial
    · rw [List.getElem?_set_ne (Ne.symm hi)] at q1
      exact (Z.ob i c b q1 q2).mono L fun _ h => h
  · by_cases hi : i = n
    · subst hi
      rw [List.getElem?_set_self (by rw [Z.ml]; exact hl)] at q1
      cases q1; exact .inl rfl
    · rw [List.getElem?_set_ne (Ne.symm hi)] at q1
      rcases Z.go i c b q1 q2 with h | h
      · exact .inl h
      · refine .inr ?_
        show upd g.G a (.lst xs) b = none
        rw [upd_ne (fun q => hi (nodup_get Z.nd q2 (by rw [q]; exact ea)))]; exact h
  · by_cases q : b = a
    · subst q; exact .inr h0
    · have h : upd g.G a (.lst xs) b = some u := h
      rw [upd_ne q] at h; exact Z.gn _ _ h
end

section
variable {X : Cx} {F : Fc} {ρ : Rho} {M : Mem} {Q : S → Mem → Prop} {QT : Bool → Mem → Prop} {N : DEnds} {a b e : Expr} {es : List Expr} {st : Stmt} {rest : List Stmt} {pos : Pos}
/-! #### displays -/
theorem post_new {K : PySem.W.Frag} {g g1 : Gh} {σ : L2.St} {H : Hp} {xs : List V} {ds : List D} (Z : Sim K F g1 ρ M σ H) (l : Gle g g1) (r : RepL K g1.G xs ds) (q : Q (.d (.lst ds)) M) : ∀ p, H p = none → Post K F ρ σ g Q (.ref p) (upd H p (.lst xs)) := fun p hp => by
  obtain ⟨Z', L⟩ := Z.allocD (o := .lst xs) hp
  exact ⟨.d (.lst ds), M, _, l.trans L, Rep.lst (SqL.of upd_same) (RepL.mono L.G r), Z', q⟩
theorem post_newT {K : PySem.W.Frag} {g g1 : Gh} {σ : L2.St} {H : Hp} {xs : List V} {ds : List D} (Z : Sim K F g1 ρ M σ H) (l : Gle g g1) (r : RepL K g1.G xs ds) (q : Q (.d (.tup ds)) M) : ∀ p, H p = none → Post K F ρ σ g Q (.ref p) (upd H p (.tup xs)) := fun p hp => by
  obtain ⟨Z', L⟩ := Z.allocD (o := .tup xs) hp
  exact ⟨.d (.tup ds), M, _, l.trans L, Rep.tup (SqT.of upd_same) (RepL.mono L.G r), Z', q⟩
theorem post_newP {K : PySem.W.Frag} {g g1 : Gh} {σ : L2.St} {H : Hp} {xs : List V} {ss : List S} (Z : Sim K F g1 ρ M σ H) (l : Gle g g1) (r : RepSs K g1 xs ss) (q : Q (.p M.length) (M ++ [.lst ss])) : ∀ p, H p = none → Post K F ρ σ g Q (.ref p) (upd H p (.lst xs)) := fun p hp => by
  have L0 : Gle g1 ⟨g1.G, g1.θ ++ [p]⟩ := ⟨Le.refl _, [p], rfl⟩
  obtain ⟨Z', L⟩ := Z.allocP (o := .lst xs) (c := .lst ss) hp ⟨xs, upd_same, r.mono L0⟩
  refine ⟨.p M.length, _, _, l.trans L, ⟨p, rfl, ?_⟩, Z', q⟩
  show (g1.θ ++ [p])[M.length]? = some p
  rw [Z.ml, List.getElem?_append_right (Nat.le_refl _)]
  simp
/-- a list display of data -/
theorem de_lst (h : DA F X es ρ M fun ss M' => ∃ ds, datas ss = some ds ∧ ds.length ≤ sizeLine ∧ Q (.d (.lst ds)) M') : DE F X (.List es pos) ρ M Q := ⟨fun g σ H Z => of_pe (pe_lst pa_s) <|
  tA_mono (h.run g σ H Z) fun vs H1 ⟨ss, M', g', l, r, Z', ds, hd, hl, q⟩ => ⟨by rw [(repSs_datas r hd).length]; exact hl, post_new Z' l (repSs_datas r hd) q⟩⟩
/-- .. that is to be changed -/
theorem de_lstP (h : DA F X es ρ M fun ss M' => ss.length ≤ sizeLine ∧ Q (.p M'.length) (M' ++ [.lst ss])) : DE F X (.List es pos) ρ M Q := ⟨fun g σ H Z => of_pe (pe_lst pa_s) <|
  tA_mono (h.run g σ H Z) fun vs H1 ⟨ss, M', g', l, r, Z', hl, q⟩ => ⟨by
    rw [r.length]; exact hl, post_newP Z' l r q⟩⟩
theorem de_tup {k : Nat} (h : DA F X es ρ M fun ss M' => ∃ ds, datas ss = some ds ∧ ds.length ≤ sizeLine ∧ Q (.d (.tup ds)) M') : DE F X (.Tuple es k pos) ρ M Q := ⟨fun g σ H Z => of_pe (pe_tup pa_s) <|
  tA_mono (h.run g σ H Z) fun vs H1 ⟨ss, M', g', l, r, Z', ds, hd, hl, q⟩ => ⟨by rw [(repSs_datas r hd).length]; exact hl, post_newT Z' l (repSs_datas r hd) q⟩⟩

/-! #### statements -/
theorem ends_nx {K : PySem.W.Frag} {g : Gh} {σ : L2.St} {H : Hp} (Z : Sim K F g ρ M σ H) (q : N.nx ρ M) : (EndsOf K F g N).nx σ H := ⟨ρ, M, g, Gle.refl g, Z, q⟩
theorem db_nil (q : N.nx ρ M) : DB F X [] ρ M N := ⟨fun g σ H Z => of_pb pss_nil (ends_nx Z q)⟩
theorem db_cons (h : DS F X st ρ M { N with nx := fun ρ' M' => DB F X rest ρ' M' N }) : DB F X (st :: rest) ρ M N := ⟨fun g σ H Z => of_pb (pss_cons ps_s pb_s) <|
  sS_mono (h.run g σ H Z) ⟨fun σ' H' ⟨ρ', M', g', l, Z', q⟩ => sB_mono (q.run g' σ' H' Z') (EndsOf.le l), fun _ _ q => q, fun _ _ q => q, fun _ _ q => q⟩⟩
theorem ds_mono {N' : DEnds} (h : DS F X st ρ M N) (k1 : ∀ ρ M, N.nx ρ M → N'.nx ρ M) (k2 : ∀ s M, N.rt s M → N'.rt s M) (k3 : ∀ ρ M, N.bk ρ M → N'.bk ρ M) (k4 : ∀ ρ M, N.ct ρ M → N'.ct ρ M) : DS F X st ρ M N' := ⟨fun g σ H Z =>
  sS_mono (h.run g σ H Z) ⟨fun _ _ ⟨ρ', M', g', l, Z', q⟩ => ⟨ρ', M', g', l, Z', k1 _ _ q⟩, fun _ _ ⟨d, ρ', M', σ', g', l, r, Z', q⟩ => ⟨d, ρ', M', σ', g', l, r, Z', k2 _ _ q⟩, fun _ _ ⟨ρ', M', g', l, Z', q⟩ => ⟨ρ', M', g', l, Z', k3 _ _ q⟩, fun _ _ ⟨ρ', M', g', l, Z', q⟩ => ⟨ρ', M', g', l, Z', k4 _ _ q⟩⟩⟩
theorem db_mono {bl : List Stmt} {N' : DEnds} (h : DB F X bl ρ M N) (k1 : ∀ ρ M, N.nx ρ M → N'.nx ρ M) (k2 : ∀ s M, N.rt s M → N'.rt s M) (k3 : ∀ ρ M, N.bk ρ M → N'.bk ρ M) (k4 : ∀ ρ M, N.ct ρ M → N'.ct ρ M) : DB F X bl ρ M N' := ⟨fun g σ H Z =>
  sB_mono (h.run g σ H Z) ⟨fun _ _ ⟨ρ', M', g', l, Z', q⟩ => ⟨ρ', M', g', l, Z', k1 _ _ q⟩, fun _ _ ⟨d, ρ', M', σ', g', l, r, Z', q⟩ => ⟨d, ρ', M', σ', g', l, r, Z', k2 _ _ q⟩, fun _ _ ⟨ρ', M', g', l, Z', q⟩ => ⟨ρ', M', g', l, Z', k3 _ _ q⟩, fun _ _ ⟨ρ', M', g', l, Z', q⟩ => ⟨ρ', M', g', l, Z', k4 _ _ q⟩⟩⟩
theorem ds_set {i : Nat} {x : Str} {pos' : Pos} (h : DE F X e ρ M fun s M' => N.nx (ρ.set i (some s)) M') (hN : X.N.Nodup) (hi : X.N[i]? = some x) (hx : Loc X.env.scope x) (hs : swapsWith e (some (.Name x pos')) pos.line X.env = pure false) (hf : X.fn x = true ∨ X.env.scope.names.lookup x = some .local) :
    DS F X (.Assign [.Name x pos'] e pos) ρ M N := ⟨fun g σ H Z => of_ps (ps_set hN hi hx pe_s hs hf) <|
  tS_mono (h.run g σ H Z) fun v H1 ⟨s, M', g', l, r, Z', q⟩ => ⟨_, M', g', l, Z'.set r, q⟩⟩
theorem ds_ret (h : DE F X e ρ M fun s M' => N.rt s M') : DS F X (.Return (some e) pos) ρ M N := ⟨fun g σ H Z => of_ps (ps_ret pe_s) <|
  tS_mono (h.run g σ H Z) fun v H1 ⟨s, M', g', l, r, Z', q⟩ => ⟨s, ρ, M', σ, g', l, r, Z', q⟩⟩
theorem ds_retN (q : N.rt (.d .non) M) : DS F X (.Return none pos) ρ M N := ⟨fun g σ H Z => of_ps ps_retN ⟨.d .non, ρ, M, σ, g, Gle.refl g, rsN, Z, q⟩⟩
theorem ds_expr (h : DE F X e ρ M fun _ M' => N.nx ρ M') (hs : swapsWith e none pos.line X.env = pure false) : DS F X (.Expr e pos) ρ M N := ⟨fun g σ H Z => of_ps (ps_expr pe_s hs) <|
  tS_mono (h.run g σ H Z) fun v H1 ⟨s, M', g', l, r, Z', q⟩ => ⟨ρ, M', g', l, Z', q⟩⟩
theorem ds_doc {x : Str} {j : Nat} {pos' : Pos} (q : N.nx ρ M) : DS F X (.Expr (.Constant (.str x) j pos) pos') ρ M N := ⟨fun g σ H Z => of_ps ps_doc (ends_nx Z q)⟩
theorem ds_pass (q : N.nx ρ M) : DS F X (.Pass pos) ρ M N := ⟨fun g σ H Z => of_ps ps_pass (ends_nx Z q)⟩
theorem ds_break (q : N.bk ρ M) : DS F X (.Break pos) ρ M N := ⟨fun g σ H Z => of_ps ps_break ⟨ρ, M, g, Gle.refl g, Z, q⟩⟩
theorem ds_continue (q : N.ct ρ M) : DS F X (.Continue pos) ρ M N := ⟨fun g σ H Z => of_ps ps_continue ⟨ρ, M, g, Gle.refl g, Z, q⟩⟩
theorem ds_if {c : Expr} {x y : List Stmt} (h : DT F X c ρ M fun k M' => (k = true → DB F X x ρ M' N) ∧ (k = false → DB F X y ρ M' N)) : DS F X (.If c x y pos) ρ M N := ⟨fun g σ H Z => of_ps (ps_if pt_s pb_s pb_s) <|
  tT_mono (h.run g σ H Z) fun k H1 ⟨M', g', l, Z', q1, q2⟩ => by
    cases k with
    | true => exact sB_mono ((q1 rfl).run g' σ H1 Z') (EndsOf.le l)
    | false => exact sB_mono ((q2 rfl).run g' σ H1 Z') (EndsOf.le l)⟩
/-- a list of the def's own becomes data -/
theorem db_freeze {bl : List Stmt} {i n : Nat} {ss : List S} {ds : List D} (hs : ρ[i]? = some (some (.p n))) (e : M[n]? = some (.lst ss)) (hd : datas ss = some ds) (hn : F.θ0.length ≤ n) (h : DB F X bl (ρ.set i (some (.d (.lst ds)))) (M.set n .dead) N) : DB F X bl ρ M N := ⟨fun g σ H Z => by
  obtain ⟨v, h1, a', hv, ha'⟩ := Z.sl i _ hs
  obtain ⟨a, G', ea, Z', L, r⟩ := Z.freeze e hd hn
  rw [ha'] at ea; cases ea
  have hσ : σ.set i (some v) = σ := by
    obtain ⟨hi, q⟩ := List.getElem?_eq_some_iff.mp h1
    exact List.ext_getElem? fun j => by
      by_cases hj : i = j
      · subst hj; rw [List.getElem?_set_self hi, h1]
      · rw [List.getElem?_set_ne hj]
  have Z2 := Z'.set (i := i) (v := v) (s := .d (.lst ds)) (by rw [hv]; exact r)
  rw [hσ] at Z2
  exact sB_mono (h.run _ σ H Z2) (EndsOf.le L)⟩
end

/-! ### defs -/
def flatS : S → Bool
  | .d _ => true
  | .p _ => false
def C.flat : C → Bool
  | .lst ss => ss.all flatS
  | .ins _ fs => fs.all fun p => flatS p.2
  | .dT kvs => kvs.all fun p => flatS p.2
  | .dK kvs => kvs.all fun p => flatS p.2
  | .at _ => true
  | .dead => false
def C.fd : C → Bool
  | .dead => true
  | c => c.flat
theorem repS_flat {K : PySem.W.Frag} {G : Hp} {θ θ' : List Addr} {v : V} : ∀ {s : S}, flatS s = true → RepS K ⟨G, θ⟩ v s → RepS K ⟨G, θ'⟩ v s
  | .d _, _, h => h
  | .p _, h, _ => by simp [flatS] at h
theorem repSs_flat {K : PySem.W.Frag} {G : Hp} {θ θ' : List Addr} : ∀ {vs : List V} {ss : List S}, ss.all flatS = true → RepSs K ⟨G, θ⟩ vs ss → RepSs K ⟨G, θ'⟩ vs ss
  | _, _, _, .nil => .nil
  | _, _, h, .cons r t => by
    simp only [List.all_cons, Bool.and_eq_true] at h
    exact .cons (repS_flat h.1 r) (repSs_flat h.2 t)
theorem repSf_flat {K : PySem.W.Frag} {G : Hp} {θ θ' : List Addr} : ∀ {vs : List (Str × V)} {ss : List (Str × S)}, (ss.all fun p => flatS p.2) = true → RepSf K ⟨G, θ⟩ vs ss → RepSf K ⟨G, θ'⟩ vs ss
  | _, _, _, .nil => .nil
  | _, _, h, .cons r t => by
    simp only [List.all_cons, Bool.and_eq_true] at h
    exact .cons (repS_flat h.1 r) (repSf_flat h.2 t)
theorem repSt_flat {K : PySem.W.Frag} {G : Hp} {θ θ' : List Addr} {κ : Type} : ∀ {vs : List (κ × V)} {ss : List (κ × S)}, (ss.all fun p => flatS p.2) = true → RepSt K ⟨G, θ⟩ vs ss → RepSt K ⟨G, θ'⟩ vs ss
  | _, _, _, .nil => .nil
  | _, _, h, .cons r t => by
    simp only [List.all_cons, Bool.and_eq_true] at h
    exact .cons (repS_flat h.1 r) (repSt_flat h.2 t)
theorem Cont.flat {K : PySem.W.Frag} {G : Hp} {θ θ' : List Addr} {H : Hp} {a : Addr} : ∀ {c : C}, c.flat = true → Cont K ⟨G, θ⟩ H a c → Cont K ⟨G, θ'⟩ H a c
  | .lst _, f, ⟨xs, h, r⟩ => ⟨xs, h, repSs_flat f r⟩
  | .ins _ _, f, ⟨dx, xs, h, r⟩ => ⟨dx, xs, h, repSf_flat f r⟩
  | .dT _, f, ⟨xs, h, r⟩ => ⟨xs, h, repSt_flat f r⟩
  | .dK _, f, ⟨xs, h, r⟩ => ⟨xs, h, repSt_flat f r⟩
  | .at _, _, h => h
  | .dead, _, _ => trivial
theorem Cont.fd {K : PySem.W.Frag} {G : Hp} {θ θ' : List Addr} {H : Hp} {a : Addr} {c : C} (f : c.fd = true) (h : Cont K ⟨G, θ⟩ H a c) : Cont K ⟨G, θ'⟩ H a c := by
  cases c with
  | dead => trivial
  | _ => exact Cont.flat f h
theorem flat_dead {c : C} (h : c.flat = true) : c ≠ .dead := by intro e; subst e; cases h

/-- behind a call that was handed the objects at as -/
structure Aft (G : Hp) (as : List Addr) (H G' H' : Hp) : Prop where
  le : Le G G'
  sub : Le G' H'
  fr : ∀ a o, H a = some o → a ∉ as → H' a = some o
  gn : ∀ a o, G' a = some o → G a = some o ∨ H a = none
  go : ∀ a ∈ as, G' a = none
  tr : ∀ a ∈ as, ∃ o, H' a = some o
inductive Rs where
  | d (x : D) | new (c : C)
def RetV (K : PySem.W.Frag) (H G' H' : Hp) : Rs → V → Prop
  | .d x, v => Rep K G' v x
  | .new c, v => ∃ a, v = .ref a ∧ H a = none ∧ G' a = none ∧ c.flat = true ∧ Cont K ⟨G', []⟩ H' a c
abbrev Sd := List S → List C → (Rs → List C → Prop) → Prop
def Conts (K : PySem.W.Frag) (G H : Hp) (as : List Addr) (cs : List C) : Prop := cs.length = as.length ∧ ∀ (i : Nat) (c : C) (a : Addr), cs[i]? = some c → as[i]? = some a → c.flat = true ∧ Cont K ⟨G, as⟩ H a c
def spOf (K : PySem.W.Frag) (np : Nat) (sd : Sd) : Sp := fun vs H Q _ => vs.length = np ∧ ∃ (ss : List S) (cs : List C) (G : Hp) (as : List Addr), RepSs K ⟨G, as⟩ vs ss ∧ Le G H ∧ Conts K G H as cs ∧ as.Nodup ∧ (∀ a ∈ as, G a = none) ∧
  ∃ Q0 : Rs → List C → Prop, sd ss cs Q0 ∧ ∀ r cs', Q0 r cs' → ∀ v H' G', Aft G as H G' H' → Conts K G' H' as cs' → RetV K H G' H' r v → Q v H'
def startS (N : List Str) (ss : List S) : Rho := ss.map some ++ List.replicate (N.length - ss.length) none
def RetS (m : Nat) (t : S) (M : Mem) (Q : Rs → List C → Prop) : Prop := (∀ c ∈ M.take m, C.flat c = true) ∧ ((∃ x, t = .d x ∧ Q (.d x) (M.take m)) ∨ ∃ n c, t = .p n ∧ m ≤ n ∧ M[n]? = some c ∧ c.flat = true ∧ Q (.new c) (M.take m))
section
variable {P : Program} {w : World} {K : PySem.W.Frag} {mg : Str → Option Value} {base : Heap}
theorem sim_start {H G : Hp} {as : List Addr} {vs : List V} {ss : List S} {cs : List C} {N : List Str} (r : RepSs K ⟨G, as⟩ vs ss) (l : Le G H) (hc : Conts K G H as cs) (nd : as.Nodup) (ga : ∀ a ∈ as, G a = none) : Sim K ⟨H, G, as⟩ ⟨G, as⟩ (startS N ss) cs (L2.start N vs) H := by
  have hl := r.length
  refine ⟨l, ?_, fun i s e => ?_, hc.1, fun i c a e1 e2 => (hc.2 i c a e1 e2).2, nd, fun a h => ?_, fun i c a e1 e2 => .inr (ga a (List.mem_of_getElem? e2)), ⟨[], by simp⟩, fun a o e _ => e, fun a h => .inl h, fun a o e => .inl e, Le.refl _⟩
  · unfold startS L2.start
    simp [hl]
  · unfold startS at e
    by_cases hi : i < ss.length
    · rw [List.getElem?_append_left (by simpa using hi), List.getElem?_map] at e
      cases q : ss[i]? with
      | none => rw [q] at e; cases e
      | some t =>
        rw [q] at e
        injection e with e; injection e with e; subst e
        obtain ⟨u, h1, h2⟩ := r.get q
        refine ⟨u, ?_, h2⟩
        unfold L2.start
        rw [List.getElem?_append_left (by simp; omega), List.getElem?_map, h1]
        rfl
    · rw [List.getElem?_append_right (by simpa using hi), List.getElem?_replicate] at e
      split at e <;> cases e
  · obtain ⟨i, hi, e⟩ := List.getElem_of_mem h
    have q1 : cs[i]? = some (cs[i]'(by rw [hc.1]; exact hi)) := List.getElem?_eq_getElem _
    obtain ⟨f, ct⟩ := hc.2 i _ a q1 (by rw [List.getElem?_eq_getElem hi, e])
    exact ct.some (flat_dead f)
theorem sim_end {F : Fc} {g : Gh} {ρ : Rho} {M : Mem} {σ : L2.St} {H' : Hp} (Z : Sim K F g ρ M σ H') (hf : ∀ c ∈ M.take F.θ0.length, C.flat c = true) : Aft F.G0 F.θ0 F.H0 g.G H' ∧ Conts K g.G H' F.θ0 (M.take F.θ0.length) := by
  obtain ⟨l, el⟩ := Z.pre
  have hlen : F.θ0.length ≤ M.length := by rw [Z.ml, el, List.length_append]; omega
  have at_ : ∀ (i : Nat) a, F.θ0[i]? = some a → g.θ[i]? = some a := fun i a e => by
    rw [el, List.getElem?_append_left (List.getElem?_eq_some_iff.mp e).1]; exact e
  have key : ∀ (i : Nat) (c : C) a, (M.take F.θ0.length)[i]? = some c → F.θ0[i]? = some a → C.flat c = true ∧ M[i]? = some c ∧ g.θ[i]? = some a := fun i c a e1 e2 => by
    have hi : i < F.θ0.length := (List.getElem?_eq_some_iff.mp e2).1
    refine ⟨hf c (List.mem_of_getElem? e1), ?_, at_ i a e2⟩
    rw [List.getElem?_take_of_lt hi] at e1; exact e1
  refine ⟨⟨Z.g0, Z.sub, Z.fr, Z.gn, fun a h => ?_, fun a h => Z.tr a (by rw [el]; exact List.mem_append_left _ h)⟩, by simp; omega, fun i c a e1 e2 => ?_⟩
  · obtain ⟨i, hi, e⟩ := List.getElem_of_mem h
    have e2 : F.θ0[i]? = some a := by rw [List.getElem?_eq_getElem hi, e]
    have e1 : (M.take F.θ0.length)[i]? = some (M[i]'(by omega)) := by rw [List.getElem?_take_of_lt hi, List.getElem?_eq_getElem]
    obtain ⟨k1, k2, k3⟩ := key i _ a e1 e2
    exact (Z.go i _ a k2 k3).resolve_left (flat_dead k1)
  · obtain ⟨k1, k2, k3⟩ := key i c a e1 e2
    exact ⟨k1, (Z.ob i c a k2 k3).flat k1⟩
end
section
variable {K : PySem.W.Frag} {F : Fc} {g : Gh} {ρ : Rho} {M M' : Mem} {σ : L2.St} {H H' G' : Hp} {as : List Addr}
theorem Sim.after (Z : Sim K F g ρ M σ H) (ha : ∀ a ∈ as, a ∈ g.θ) (A : Aft g.G as H G' H') (hM : M'.length = M.length)
    (hc : ∀ (i : Nat) (c : C) (a : Addr), M'[i]? = some c → g.θ[i]? = some a → (a ∉ as ∧ M[i]? = some c) ∨ (a ∈ as ∧ Cont K ⟨G', g.θ⟩ H' a c)) : Sim K F ⟨G', g.θ⟩ ρ M' σ H' ∧ Gle g ⟨G', g.θ⟩ := by
  have L : Gle g ⟨G', g.θ⟩ := ⟨A.le, [], by simp⟩
  refine ⟨⟨A.sub, Z.ln, fun i s e => ?_, by rw [hM]; exact Z.ml, fun i c a e1 e2 => ?_, Z.nd, fun a h => ?_, fun i c a e1 e2 => ?_, Z.pre, fun a o e h => ?_, Z.own, fun a o e => ?_, Z.g0.trans A.le⟩, L⟩
  · obtain ⟨v, h1, h2⟩ := Z.sl i s e
    exact ⟨v, h1, h2.mono L⟩
  · rcases hc i c a e1 e2 with ⟨h1, h2⟩ | ⟨_, h⟩
    · exact (Z.ob i c a h2 e2).mono L fun o e => A.fr a o e h1
    · exact h
  · by_cases q : a ∈ as
    · exact A.tr a q
    · obtain ⟨o, e⟩ := Z.tr a h
      exact ⟨o, A.fr a o e q⟩
  · rcases hc i c a e1 e2 with ⟨h1, h2⟩ | ⟨h, _⟩
    · rcases Z.go i c a h2 e2 with q | q
      · exact .inl q
      · refine .inr ?_
        cases r : G' a with
        | none => exact r
        | some o =>
          rcases A.gn a o r with z | z
          · rw [q] at z; cases z
          · obtain ⟨u, eu⟩ := Z.tr a (List.mem_of_getElem? e2)
            rw [z] at eu; cases eu
    · exact .inr (A.go a h)
  · refine A.fr a o (Z.fr a o e h) fun q => ?_
    rcases Z.own a (ha a q) with z | z
    · exact h z
    · rw [z] at e; cases e
  · rcases A.gn a o e with z | z
    · exact Z.gn a o z
    · exact .inr (Z.fresh z).2.2
theorem Sim.adopt (Z : Sim K F g ρ M σ H) {p : Addr} {c : C} (h1 : p ∉ g.θ) (h2 : g.G p = none) (h3 : F.H0 p = none) (hd : c ≠ .dead) (hc : Cont K ⟨g.G, g.θ ++ [p]⟩ H p c) : Sim K F ⟨g.G, g.θ ++ [p]⟩ ρ (M ++ [c]) σ H ∧ Gle g ⟨g.G, g.θ ++ [p]⟩ := by
  have L : Gle g ⟨g.G, g.θ ++ [p]⟩ := ⟨Le.refl _, [p], rfl⟩
  have key : ∀ (i : Nat) (c' : C) (a : Addr), (M ++ [c])[i]? = some c' → (g.θ ++ [p])[i]? = some a → (M[i]? = some c' ∧ g.θ[i]? = some a) ∨ (c' = c ∧ a = p) := fun i c' a e1 e2 => by
    by_cases h : i < M.length
    · rw [List.getElem?_append_left h] at e1
      rw [List.getElem?_append_left (by rw [← Z.ml]; exact h)] at e2
      exact .inl ⟨e1, e2⟩
    · rw [List.getElem?_append_right (by omega)] at e1
      rw [List.getElem?_append_right (by rw [← Z.ml]; omega)] at e2
      rw [← Z.ml] at e2
      by_cases h0 : i - M.length = 0
      · rw [h0] at e1 e2
        exact .inr ⟨(Option.some.inj e1).symm, (Option.some.inj e2).symm⟩
      · rw [List.getElem?_eq_none (by simp; omega)] at e1; cases e1
  refine ⟨⟨Z.sub, Z.ln, fun i s e => ?_, by simp [Z.ml], fun i c' a e1 e2 => ?_, ?_, fun a h => ?_, fun i c' a e1 e2 => ?_, ?_, Z.fr, fun a h => ?_, Z.gn, Z.g0⟩, L⟩
  · obtain ⟨v, q1, q2⟩ := Z.sl i s e
    exact ⟨v, q1, q2.mono L⟩
  · rcases key i c' a e1 e2 with ⟨q1, q2⟩ | ⟨rfl, rfl⟩
    · exact (Z.ob i c' a q1 q2).mono L fun _ e => e
    · exact hc
  · show (g.θ ++ [p]).Nodup
    rw [List.nodup_append]
    exact ⟨Z.nd, by simp, fun a h b hb => by simp at hb; subst hb; intro q; subst q; exact h1 h⟩
  · rcases List.mem_append.mp h with h | h
    · exact Z.tr a h
    · simp at h; subst h; exact hc.some hd
  · rcases key i c' a e1 e2 with ⟨q1, q2⟩ | ⟨rfl, rfl⟩
    · exact Z.go i c' a q1 q2
    · exact .inr h2
  · obtain ⟨l, e⟩ := Z.pre
    exact ⟨l ++ [p], by show g.θ ++ [p] = _; rw [e, List.append_assoc]⟩
  · rcases List.mem_append.mp h with h | h
    · exact Z.own a h
    · simp at h; subst h; exact .inr h3
end
/-- what a call hands back, in the caller -/
def Got (M : Mem) (Q : S → Mem → Prop) : Rs → Prop
  | .d x => Q (.d x) M
  | .new c => Q (.p M.length) (M ++ [c])
section
variable {X : Cx} {F : Fc} {ρ : Rho} {M : Mem} {Q : S → Mem → Prop} {N : DEnds} {a b e : Expr} {es : List Expr} {pos : Pos}
theorem post_ret {K : PySem.W.Frag} {g : Gh} {σ : L2.St} {H H' G' : Hp} {M' : Mem} {r : Rs} {v : V} (Z : Sim K F g ρ M σ H) (Z' : Sim K F ⟨G', g.θ⟩ ρ M' σ H') (L : Gle g ⟨G', g.θ⟩) (rv : RetV K H G' H' r v) (q : Got M' Q r) : Post K F ρ σ g Q v H' := by
  cases r with
  | d x => exact ⟨.d x, M', _, L, rv, Z', q⟩
  | new c =>
    obtain ⟨p, rfl, hp, gp, hf, hc⟩ := rv
    obtain ⟨f1, f2, f3⟩ := Z.fresh hp
    obtain ⟨Z2, L2⟩ := Z'.adopt (c := c) f2 gp f3 (flat_dead hf) (hc.flat hf)
    refine ⟨.p M'.length, _, _, L.trans L2, ⟨p, rfl, ?_⟩, Z2, q⟩
    show (g.θ ++ [p])[M'.length]? = some p
    have : M'.length = g.θ.length := Z'.ml
    rw [this, List.getElem?_append_right (Nat.le_refl _)]
    simp
structure SpD (F : Fc) (X : Cx) (sp : Sp) (dvs : List V) (ss : List S) (ρ : Rho) (M : Mem) (Q : S → Mem → Prop) : Prop where
  run : ∀ g0 g σ H vs, Gle g0 g → Sim X.K F g ρ M σ H → RepSs X.K g vs ss → sp (vs ++ dvs) H (Post X.K F ρ σ g0 Q) E0
theorem repSs_append {K : PySem.W.Frag} {g : Gh} : ∀ {vs ws : List V} {ss ts : List S}, RepSs K g vs ss → RepSs K g ws ts → RepSs K g (vs ++ ws) (ss ++ ts)
  | _, _, _, _, .nil, t => t
  | _, _, _, _, .cons h r, t => .cons h (repSs_append r t)
/-- a call that is handed data alone -/
theorem spd0 {sd : Sd} {np : Nat} {dvs : List V} {ss ts : List S} (hf : (ss ++ ts).all flatS = true) (hl : (ss ++ ts).length = np) (hd : ∀ G, RepSs X.K ⟨G, []⟩ dvs ts) (h : sd (ss ++ ts) [] fun r _ => Got M Q r) : SpD F X (spOf X.K np sd) dvs ss ρ M Q := ⟨fun g0 g σ H vs l0 Z r => by
  have hts : RepSs X.K ⟨g.G, []⟩ dvs ts := hd g.G
  have hfs : ss.all flatS = true := by
    rw [List.all_append, Bool.and_eq_true] at hf; exact hf.1
  have r2 : RepSs X.K ⟨g.G, []⟩ (vs ++ dvs) (ss ++ ts) := repSs_append (repSs_flat (θ := g.θ) hfs r) hts
  refine ⟨by rw [r2.length, hl], ss ++ ts, [], g.G, [], r2, Z.sub, ⟨rfl, fun i c a e => by simp at e⟩, List.nodup_nil, fun a h => by simp at h, _, h, fun r cs' q v H' G' A C1 rv => ?_⟩
  obtain ⟨Z', L⟩ := Z.after (M' := M) (fun a h => by simp at h) A rfl (fun i c a e1 e2 => .inl ⟨by simp, e1⟩)
  exact (post_ret Z Z' L rv q).le l0⟩
/-- a call that is handed one object to change, its first argument -/
theorem spd1 {sd : Sd} {np n : Nat} {c : C} {dvs : List V} {ss ts : List S} (e : M[n]? = some c) (hc : c.flat = true) (hf : (ss ++ ts).all flatS = true) (hl : (ss ++ ts).length + 1 = np) (hd : ∀ G θ, RepSs X.K ⟨G, θ⟩ dvs ts)
    (h : sd (.p 0 :: (ss ++ ts)) [c] fun r cs' => ∃ c', cs' = [c'] ∧ Got (M.set n c') Q r) : SpD F X (spOf X.K np sd) dvs (.p n :: ss) ρ M Q := ⟨fun g0 g σ H vs l0 Z r => by
  cases r with
  | cons r0 r =>
    rename_i v0 vs0
    obtain ⟨a, rfl, ea⟩ := r0
    have hfs : ss.all flatS = true := by
      rw [List.all_append, Bool.and_eq_true] at hf; exact hf.1
    have r2 : RepSs X.K ⟨g.G, [a]⟩ (.ref a :: (vs0 ++ dvs)) (.p 0 :: (ss ++ ts)) := .cons ⟨a, rfl, rfl⟩ (repSs_append (repSs_flat (θ := g.θ) hfs r) (hd _ _))
    have hct : Cont X.K g H a c := Z.ob n c a e ea
    refine ⟨by show (V.ref a :: (vs0 ++ dvs)).length = np; rw [r2.length, ← hl] <;> rfl, .p 0 :: (ss ++ ts), [c], g.G, [a], r2, Z.sub, ⟨rfl, fun i c' b e1 e2 => ?_⟩, by simp, fun b hb => ?_, _, h, fun r cs' q v H' G' A C1 rv => ?_⟩
    · cases i with
      | zero =>
        cases e1; cases e2
        exact ⟨hc, hct.flat hc⟩
      | succ i => simp at e1
    · have : b = a := by simpa using hb
      subst this
      exact (Z.go n c b e ea).resolve_left (flat_dead hc)
    · obtain ⟨c', rfl, q⟩ := q
      obtain ⟨f1, f2⟩ := C1.2 0 c' a rfl rfl
      have hn : n < M.length := (List.getElem?_eq_some_iff.mp e).1
      obtain ⟨Z', L⟩ := Z.after (M' := M.set n c') (fun b h => by
        have : b = a := by simpa using h
        subst this
        exact List.mem_of_getElem? ea) A (by simp) (fun i c2 b e1 e2 => by
        by_cases hi : i = n
        · subst hi
          rw [List.getElem?_set_self hn] at e1
          cases e1
          rw [ea] at e2; cases e2
          exact .inr ⟨by simp, f2.flat f1⟩
        · rw [List.getElem?_set_ne (Ne.symm hi)] at e1
          exact .inl ⟨by simp; exact fun q => hi (nodup_get Z.nd e2 (by rw [q]; exact ea)), e1⟩)
      exact (post_ret Z Z' L rv q).le l0⟩
section
variable {k : Nat} {f : Addr} {fd : FuncData} {ps : List Str} {sp : Sp} {dvs : List V} {ds : List Value} {x : Str} {p : Pos}
theorem de_call (FO : FnOk X.prog X.w X.K X.mg X.base CX0 k f fd ps sp) (hr : Room k X.A) (hg : Gl X x) (hm : X.mg x = some (.ref f)) (hk : PySem.W.keepIn X.K (.ref f) = true) (hb : Binds X.K fd ps ds) (hd : Vals dvs ds)
    (hdb : (x == ("__debug__" : Str)) = false) (he : starEach (e :: es) X.env = (false, eval e X.env) :: starEach es X.env) (hpl : (backTo pos (starEach es X.env)).any (·.1) = false)
    (h : DA F X (e :: es) ρ M fun ss M' => SpD F X sp dvs ss ρ M' Q) : DE F X (.Call (.Name x p) (e :: es) [] pos) ρ M Q := ⟨fun g σ H Z => of_pe (pe_call FO hr hg hm hk hb hd pass0 pa_s hdb he hpl) <|
  tA_mono (h.run g σ H Z) fun vs H1 ⟨ss, M', g', l, r, Z', q⟩ => by
    exact q.run g g' σ H1 vs l Z' r⟩
end
end
end DL
end

section
set_option Elab.async false
set_option linter.all false
set_option maxRecDepth 100000
set_option maxHeartbeats 2000000
namespace DL
open PySem PySem.Spec PyProof.Rows L2
section
variable {X : Cx} {F : Fc} {ρ : Rho} {M : Mem} {Q : S → Mem → Prop} {QT : Bool → Mem → Prop} {N : DEnds} {a b e o : Expr} {es : List Expr} {st : Stmt} {rest : List Stmt} {pos apos p : Pos} {x : Str}
/-! #### built-ins by name -/
theorem cS_mono {f : Value} {xs : List V} {H : Hp} {Q Q' : VK} (h : cS X f xs H Q) (k : ∀ v H', Q v H' → Q' v H') : cS X f xs H Q' := fun pins s σ us I r =>
  thn (h pins s σ us I r) fun _ _ ⟨v, H', I', r, q⟩ => ⟨v, H', I', r, k v H' q⟩
theorem de_callB {id : String} (hg : Gl X x) (hm : X.mg x = none) (hv : bootBuiltins x = some (.builtin id)) (hn : x ≠ "__name__") (hdb : (x == ("__debug__" : Str)) = false)
    (he : starEach (e :: es) X.env = (false, eval e X.env) :: starEach es X.env) (hpl : (backTo pos (starEach es X.env)).any (·.1) = false)
    (h : DA F X (e :: es) ρ M fun ss M' => CD F X (.builtin id) ss ρ M' Q) : DE F X (.Call (.Name x p) (e :: es) [] pos) ρ M Q := ⟨fun g σ H Z => of_pe (pe_callB cr_s hg hm hv pa_s hn hdb he hpl) <|
  tA_mono (h.run g σ H Z) fun vs H1 ⟨ss, M', g', l, r, Z', q⟩ => cS_mono (q.run g' σ H1 vs Z' r) fun _ _ p => p.le l⟩
theorem de_callTy {T : String} (hg : Gl X x) (hm : X.mg x = none) (hv : bootBuiltins x = some (.type T)) (hn : x ≠ "__name__") (hdb : (x == ("__debug__" : Str)) = false)
    (he : starEach (e :: es) X.env = (false, eval e X.env) :: starEach es X.env) (hpl : (backTo pos (starEach es X.env)).any (·.1) = false)
    (h : DA F X (e :: es) ρ M fun ss M' => CD F X (.type T) ss ρ M' Q) : DE F X (.Call (.Name x p) (e :: es) [] pos) ρ M Q := ⟨fun g σ H Z => of_pe (pe_callTy cr_s hg hm hv pa_s hn hdb he hpl) <|
  tA_mono (h.run g σ H Z) fun vs H1 ⟨ss, M', g', l, r, Z', q⟩ => cS_mono (q.run g' σ H1 vs Z' r) fun _ _ p => p.le l⟩
theorem cd_of {f : Value} {r : List V → Hp → VK → Prop} {ss : List S} (p : CallR X f r) (h : ∀ g σ H us, Sim X.K F g ρ M σ H → RepSs X.K g us ss → r us H (Post X.K F ρ σ g Q)) : CD F X f ss ρ M Q := ⟨fun g σ H us Z ru => of_cr p (h g σ H us Z ru)⟩
theorem ss1 {K : PySem.W.Frag} {g : Gh} {us : List V} {s : S} (h : RepSs K g us [s]) : ∃ v, us = [v] ∧ RepS K g v s := by
  cases h with
  | cons h t => cases t; exact ⟨_, rfl, h⟩
theorem ss2 {K : PySem.W.Frag} {g : Gh} {us : List V} {s t : S} (h : RepSs K g us [s, t]) : ∃ v w, us = [v, w] ∧ RepS K g v s ∧ RepS K g w t := by
  cases h with
  | cons h r => cases r with
    | cons h2 r => cases r; exact ⟨_, _, rfl, h, h2⟩
theorem cd_int {i : Int} (q : Q (.d (.int i)) M) : CD F X (.type "int") [.d (.int i)] ρ M Q := cd_of call_int1 fun g σ H us Z ru => by
  obtain ⟨v, rfl, rv⟩ := ss1 ru
  rw [rep_int rv]
  exact .inl ⟨i, rfl, post_at Z rsI q⟩
theorem cd_abs {i : Int} (q : Q (.d (.int (if i < 0 then -i else i))) M) : CD F X (.builtin "abs") [.d (.int i)] ρ M Q := cd_of call_abs fun g σ H us Z ru => by
  obtain ⟨v, rfl, rv⟩ := ss1 ru
  rw [rep_int rv]
  exact ⟨i, rfl, post_at Z rsI q⟩
theorem cd_max2 {i j : Int} (hc : X.calm = true) (q : Q (.d (.int (if j > i then j else i))) M) : CD F X (.builtin "max") [.d (.int i), .d (.int j)] ρ M Q := cd_of (call_max2 hc) fun g σ H us Z ru => by
  obtain ⟨v, w, rfl, rv, rw'⟩ := ss2 ru
  rw [rep_int rv, rep_int rw']
  exact ⟨i, j, rfl, post_at Z rsI q⟩
theorem cd_min2 {i j : Int} (hc : X.calm = true) (q : Q (.d (.int (if j < i then j else i))) M) : CD F X (.builtin "min") [.d (.int i), .d (.int j)] ρ M Q := cd_of (call_min2 hc) fun g σ H us Z ru => by
  obtain ⟨v, w, rfl, rv, rw'⟩ := ss2 ru
  rw [rep_int rv, rep_int rw']
  exact ⟨i, j, rfl, post_at Z rsI q⟩
theorem cd_lenL {s : S} {ds : List D} (hv : view M s = some (.lst ds)) (q : Q (.d (.int ds.length)) M) : CD F X (.builtin "len") [s] ρ M Q := cd_of call_len fun g σ H us Z ru => by
  obtain ⟨v, rfl, rv⟩ := ss1 ru
  obtain ⟨a, xs, rfl, h1, h2⟩ := Z.lst rv hv
  refine ⟨_, xs.length, rfl, .inl ⟨xs, h1, rfl⟩, post_at Z rsI ?_⟩
  rw [h2.length]; exact q
theorem cd_lenP {n : Nat} {ss : List S} (hv : M[n]? = some (.lst ss)) (q : Q (.d (.int ss.length)) M) : CD F X (.builtin "len") [.p n] ρ M Q := cd_of call_len fun g σ H us Z ru => by
  obtain ⟨v, rfl, a, rfl, ea⟩ := ss1 ru
  obtain ⟨xs, h1, h2⟩ := Z.ob n _ a hv ea
  refine ⟨_, xs.length, rfl, .inl ⟨xs, SqL.of h1, rfl⟩, post_at Z rsI ?_⟩
  rw [h2.length]; exact q
theorem cd_lenT {ds : List D} (q : Q (.d (.int ds.length)) M) : CD F X (.builtin "len") [.d (.tup ds)] ρ M Q := cd_of call_len fun g σ H us Z ru => by
  obtain ⟨v, rfl, rv⟩ := ss1 ru
  obtain ⟨a, xs, rfl, h1, h2⟩ := Z.tup rv
  refine ⟨_, xs.length, rfl, .inr ⟨xs, h1, rfl⟩, post_at Z rsI ?_⟩
  rw [h2.length]; exact q
theorem cd_lenS {z : Str} (hl : z.length ≤ sizeLine) (q : Q (.d (.int z.length)) M) : CD F X (.builtin "len") [.d (.str z)] ρ M Q := cd_of call_len fun g σ H us Z ru => by
  obtain ⟨v, rfl, rv⟩ := ss1 ru
  rw [rep_str rv]
  exact ⟨_, z.length, rfl, ⟨hl, rfl⟩, post_at Z rsI q⟩
theorem cd_tuple {s : S} {ds : List D} (hv : view M s = some (.lst ds)) (q : Q (.d (.tup ds)) M) : CD F X (.type "tuple") [s] ρ M Q := cd_of call_tuple_of fun g σ H us Z ru => by
  obtain ⟨v, rfl, rv⟩ := ss1 ru
  obtain ⟨a, xs, rfl, h1, h2⟩ := Z.lst rv hv
  exact ⟨a, xs, rfl, .inl ⟨h1, post_newT Z (Gle.refl g) h2 q⟩⟩
theorem cd_tupleT {ds : List D} (q : Q (.d (.tup ds)) M) : CD F X (.type "tuple") [.d (.tup ds)] ρ M Q := cd_of call_tuple_of fun g σ H us Z ru => by
  obtain ⟨v, rfl, rv⟩ := ss1 ru
  obtain ⟨a, xs, rfl, h1, h2⟩ := Z.tup rv
  exact ⟨a, xs, rfl, .inr ⟨h1, post_at Z rv q⟩⟩

/-! #### subscripts -/
def xS (X : Cx) : R2 := fun x y H Q => ∀ value slice pins s σ v u, Inv X pins σ H s → RelV x v → RelV y u → subscripted slice false v u = operate [v, u] (getItem v u) → wpAny (model X.prog X.w) X.A (subscriptTail value slice v u) (EP X pins σ Q) X.xe s
theorem ix_s : IxR X (xS X) := fun value slice pins s σ H x y v u Q I rx ry h hs => h value slice pins s σ v u I rx ry hs
theorem of_ix {r : R2} {x y : V} {H : Hp} {Q : VK} (p : IxR X r) (h : r x y H Q) : xS X x y H Q := fun value slice pins s σ v u I rx ry hs => p value slice pins s σ H x y v u Q I rx ry h hs
structure ID (F : Fc) (X : Cx) (x y : S) (ρ : Rho) (M : Mem) (Q : S → Mem → Prop) : Prop where
  run : ∀ g σ H u v, Sim X.K F g ρ M σ H → RepS X.K g u x → RepS X.K g v y → xS X u v H (Post X.K F ρ σ g Q)
theorem de_ix (h : DE F X a ρ M fun x M1 => DE F X b ρ M1 fun y M2 => ID F X x y ρ M2 Q) (hs : PlainIx b) : DE F X (.Subscript a b pos) ρ M Q := ⟨fun g σ H Z => of_pe (pe_ix ix_s pe_s pe_s hs) <|
  tS_mono (h.run g σ H Z) fun u H1 ⟨x, M1, g1, l1, r1, Z1, q1⟩ => tS_mono (q1.run g1 σ H1 Z1) fun v H2 ⟨y, M2, g2, l2, r2, Z2, q2⟩ => by
    have q := q2.run g2 σ H2 u v Z2 (r1.mono l2) r2
    intro value slice pins s σ' v' u' I rx ry hs
    exact thn (q value slice pins s σ' v' u' I rx ry hs) fun _ _ ⟨w, H', I', r, p⟩ => ⟨w, H', I', r, p.le (l1.trans l2)⟩⟩
theorem atI_rep {K : PySem.W.Frag} {G : Hp} {xs : List V} {ds : List D} {i : Int} {d : D} (r : RepL K G xs ds) (h : atI ds i = some d) : ∃ v, atI xs i = some v ∧ Rep K G v d := by
  unfold atI at h ⊢
  rw [r.length]
  cases e : ixN ds.length i with
  | none => rw [e] at h; cases h
  | some j =>
    rw [e] at h
    obtain ⟨u, h1, h2⟩ := r.get (i := j) h
    exact ⟨u, h1, h2⟩
theorem atI_repS {K : PySem.W.Frag} {g : Gh} {xs : List V} {ds : List S} {i : Int} {d : S} (r : RepSs K g xs ds) (h : atI ds i = some d) : ∃ v, atI xs i = some v ∧ RepS K g v d := by
  unfold atI at h ⊢
  rw [r.length]
  cases e : ixN ds.length i with
  | none => rw [e] at h; cases h
  | some j =>
    rw [e] at h
    obtain ⟨u, h1, h2⟩ := r.get (i := j) h
    exact ⟨u, h1, h2⟩
theorem id_lst {s : S} {ds : List D} {i : Int} {d : D} (hv : view M s = some (.lst ds)) (hi : atI ds i = some d) (q : Q (.d d) M) : ID F X s (.d (.int i)) ρ M Q := ⟨fun g σ H u v Z ru rv => of_ix ix_list (by
  obtain ⟨a, xs, rfl, h1, h2⟩ := Z.lst ru hv
  obtain ⟨w, h3, h4⟩ := atI_rep h2 hi
  rw [rep_int rv]
  exact ⟨a, xs, i, w, rfl, rfl, h1, h3, .d d, M, g, Gle.refl g, h4, Z, q⟩)⟩
theorem id_lstP {n : Nat} {ss : List S} {i : Int} {d : S} (hv : M[n]? = some (.lst ss)) (hi : atI ss i = some d) (q : Q d M) : ID F X (.p n) (.d (.int i)) ρ M Q := ⟨fun g σ H u v Z ru rv => of_ix ix_list (by
  obtain ⟨a, rfl, ea⟩ := ru
  obtain ⟨xs, h1, h2⟩ := Z.ob n _ a hv ea
  obtain ⟨w, h3, h4⟩ := atI_repS h2 hi
  rw [rep_int rv]
  exact ⟨a, xs, i, w, rfl, rfl, SqL.of h1, h3, d, M, g, Gle.refl g, h4, Z, q⟩)⟩
theorem id_tup {ds : List D} {i : Int} {d : D} (hi : atI ds i = some d) (q : Q (.d d) M) : ID F X (.d (.tup ds)) (.d (.int i)) ρ M Q := ⟨fun g σ H u v Z ru rv => of_ix ix_tup (by
  obtain ⟨a, xs, rfl, h1, h2⟩ := Z.tup ru
  obtain ⟨w, h3, h4⟩ := atI_rep h2 hi
  rw [rep_int rv]
  exact ⟨a, xs, i, w, rfl, rfl, h1, h3, .d d, M, g, Gle.refl g, h4, Z, q⟩)⟩
theorem id_str {z : Str} {i : Int} {c : Nat} (hl : z.length ≤ sizeLine) (hi : atI z.cps.toList i = some c) (q : Q (.d (.str ⟨#[c]⟩)) M) : ID F X (.d (.str z)) (.d (.int i)) ρ M Q := ⟨fun g σ H u v Z ru rv => of_ix ix_str (by
  rw [rep_int rv, rep_str ru]
  exact ⟨z, i, c, rfl, rfl, hl, hi, post_at Z rsS q⟩)⟩

/-! #### targets -/
def gS (X : Cx) (tg : Expr) : TG := fun v σ H Q => ∀ pins s u, Inv X pins σ H s → RelV v u → wpAny (model X.prog X.w) X.A (assign tg X.env u) (fun _ s' => ∃ σ' H', Inv X pins σ' H' s' ∧ Q σ' H') X.xe s
def gsS (X : Cx) (ts : List Expr) : TGs := fun vs σ H Q => ∀ pins s us, Inv X pins σ H s → Vals vs us → wpAny (model X.prog X.w) X.A (assignInOrder ((assignEach ts X.env).map (·.2)) us) (fun _ s' => ∃ σ' H', Inv X pins σ' H' s' ∧ Q σ' H') X.xe s
theorem pg_s {tg : Expr} : PG X tg (gS X tg) := ⟨fun pins s _ _ _ u _ I r h => h pins s u I r⟩
theorem pgs_s {ts : List Expr} : PGs X ts (gsS X ts) := ⟨fun pins s _ _ _ us _ I r h => h pins s us I r⟩
theorem of_pg {tg : Expr} {t : TG} {v : V} {σ : L2.St} {H : Hp} {Q : L2.St → Hp → Prop} (p : PG X tg t) (h : t v σ H Q) : gS X tg v σ H Q := fun pins s u I r => p.run pins s σ H v u Q I r h
theorem of_pgs {tg : List Expr} {t : TGs} {v : List V} {σ : L2.St} {H : Hp} {Q : L2.St → Hp → Prop} (p : PGs X tg t) (h : t v σ H Q) : gsS X tg v σ H Q := fun pins s u I r => p.run pins s σ H v u Q I r h
theorem gS_mono {tg : Expr} {v : V} {σ : L2.St} {H : Hp} {Q Q' : L2.St → Hp → Prop} (h : gS X tg v σ H Q) (k : ∀ σ H, Q σ H → Q' σ H) : gS X tg v σ H Q' := fun pins s u I r => thn (h pins s u I r) fun _ _ ⟨σ', H', I', q⟩ => ⟨σ', H', I', k _ _ q⟩
theorem gsS_mono {tg : List Expr} {v : List V} {σ : L2.St} {H : Hp} {Q Q' : L2.St → Hp → Prop} (h : gsS X tg v σ H Q) (k : ∀ σ H, Q σ H → Q' σ H) : gsS X tg v σ H Q' := fun pins s u I r => thn (h pins s u I r) fun _ _ ⟨σ', H', I', q⟩ => ⟨σ', H', I', k _ _ q⟩
def PostG (K : PySem.W.Frag) (F : Fc) (g : Gh) (R : Rho → Mem → Prop) : L2.St → Hp → Prop := fun σ' H' => ∃ ρ' M' g', Gle g g' ∧ Sim K F g' ρ' M' σ' H' ∧ R ρ' M'
theorem PostG.le {K : PySem.W.Frag} {g g1 : Gh} {R : Rho → Mem → Prop} (h : Gle g g1) {σ : L2.St} {H : Hp} (p : PostG K F g1 R σ H) : PostG K F g R σ H := by
  obtain ⟨d, M', g', k, r⟩ := p
  exact ⟨d, M', g', h.trans k, r⟩
structure DG (F : Fc) (X : Cx) (tg : Expr) (s : S) (ρ : Rho) (M : Mem) (R : Rho → Mem → Prop) : Prop where
  run : ∀ g σ H v, Sim X.K F g ρ M σ H → RepS X.K g v s → gS X tg v σ H (PostG X.K F g R)
structure DGs (F : Fc) (X : Cx) (tg : List Expr) (ss : List D) (ρ : Rho) (M : Mem) (R : Rho → Mem → Prop) : Prop where
  run : ∀ g σ H v, Sim X.K F g ρ M σ H → RepL X.K g.G v ss → gsS X tg v σ H (PostG X.K F g R)
theorem dg_name {i : Nat} {s : S} {R : Rho → Mem → Prop} (hN : X.N.Nodup) (hi : X.N[i]? = some x) (hx : Loc X.env.scope x) (hf : X.fn x = true ∨ X.env.scope.names.lookup x = some .local) (q : R (ρ.set i (some s)) M) : DG F X (.Name x pos) s ρ M R := ⟨fun g σ H v Z r => of_pg (pg_name hN hi hx hf) ⟨_, M, g, Gle.refl g, Z.set r, q⟩⟩
theorem dgs_nil {R : Rho → Mem → Prop} (q : R ρ M) : DGs F X [] [] ρ M R := ⟨fun g σ H v Z r => of_pgs pgs_nil (by cases r; exact ⟨rfl, ρ, M, g, Gle.refl g, Z, q⟩)⟩
theorem dgs_cons {d : D} {ds : List D} {R : Rho → Mem → Prop} (h : DG F X e (.d d) ρ M fun ρ' M' => DGs F X es ds ρ' M' R) (hs : (assignEach (e :: es) X.env).map (·.2) = assign e X.env :: (assignEach es X.env).map (·.2)) : DGs F X (e :: es) (d :: ds) ρ M R := ⟨fun g σ H v Z r => of_pgs (pgs_cons pg_s pgs_s hs) (by
  cases r with
  | cons r0 r1 => exact ⟨_, _, rfl, gS_mono (h.run g σ H _ Z r0) fun σ' H' ⟨ρ', M', g', l, Z', q⟩ => gsS_mono (q.run g' σ' H' _ Z' (r1.mono l.G)) fun _ _ p => p.le l⟩)⟩
theorem gtup_ok {K : PySem.W.Frag} {ds : List D} {g : Gh} {σ : L2.St} {H : Hp} {v : V} (Z : Sim K F g ρ M σ H) (r : RepS K g v (.d (.tup ds))) : ∃ a xs, v = .ref a ∧ SqT K H a xs ∧ xs.length = ds.length ∧ RepL K g.G xs ds := by
  obtain ⟨a, xs, e, h1, h2⟩ := Z.tup r
  exact ⟨a, xs, e, h1, h2.length, h2⟩
end
end DL
end

section
set_option Elab.async false
set_option linter.all false
set_option maxRecDepth 100000
set_option maxHeartbeats 2000000
namespace DL
open PySem PySem.Spec PyProof.Rows L2
section
variable {X : Cx} {F : Fc} {ρ : Rho} {M : Mem} {Q : S → Mem → Prop} {QT : Bool → Mem → Prop} {N : DEnds} {a b e o : Expr} {es : List Expr} {st : Stmt} {rest : List Stmt} {pos apos p : Pos} {x : Str}
theorem repLst {K : PySem.W.Frag} {g : Gh} {v : V} {ds : List D} (r : RepS K g v (.d (.lst ds))) : ∃ a xs, v = .ref a ∧ SqL K g.G a xs ∧ RepL K g.G xs ds := by
  have r : Rep K g.G v (.lst ds) := r
  cases r with
  | lst h1 h2 => exact ⟨_, _, rfl, h1, h2⟩
theorem repTup {K : PySem.W.Frag} {g : Gh} {v : V} {ds : List D} (r : RepS K g v (.d (.tup ds))) : ∃ a xs, v = .ref a ∧ SqT K g.G a xs ∧ RepL K g.G xs ds := by
  have r : Rep K g.G v (.tup ds) := r
  cases r with
  | tup h1 h2 => exact ⟨_, _, rfl, h1, h2⟩
theorem dg_tup {ds : List D} {k n : Nat} {R : Rho → Mem → Prop} (hc : X.calm = true) (hl : ds.length = n) (hn : (assignEach es X.env).length = n) (hst : (assignEach es X.env).findIdx? (·.1) = none) (h : DGs F X es ds ρ M R) : DG F X (.Tuple es k pos) (.d (.tup ds)) ρ M R := ⟨fun g σ H v Z r => of_pg (pg_tup hc pgs_s hn hst) (by
  obtain ⟨a, xs, e, h1, h2, h3⟩ := gtup_ok Z r
  exact ⟨a, xs, e, h1, by rw [h2, hl], h.run g σ H xs Z h3⟩)⟩
theorem ds_asg {tg : Expr} (h : DE F X e ρ M fun s M' => DG F X tg s ρ M' N.nx) (hs : swapsWithSole [tg] e pos.line X.env = pure false) (hw : swappedStores [tg] e X.env = pure none) (h1 : (assignEach [tg] X.env).map (·.2) = [assign tg X.env]) : DS F X (.Assign [tg] e pos) ρ M N := ⟨fun g σ H Z => of_ps (ps_asg pe_s pg_s hs hw h1) <|
  tS_mono (h.run g σ H Z) fun v H1 ⟨s, M', g', l, r, Z', q⟩ => gS_mono (q.run g' σ H1 v Z' r) fun _ _ p => p.le l⟩
theorem ds_par {i j : Nat} {y : Str} {px py pt pt2 : Pos} {kt k2 : Nat} (hc : X.calm = true) (hN : X.N.Nodup) (hi : X.N[i]? = some x) (hj : X.N[j]? = some y) (hij : i ≠ j)
    (hx : X.env.scope.names.lookup x = some .local) (hy : X.env.scope.names.lookup y = some .local)
    (hw : swappedStores [.Tuple [.Name x px, .Name y py] kt pt] (.Tuple [a, b] k2 pt2) X.env = pure (some [x, y]))
    (hs : swapsWithSole [.Tuple [.Name x px, .Name y py] kt pt] (.Tuple [a, b] k2 pt2) pos.line X.env = pure false)
    (h : DE F X a ρ M fun s M1 => DE F X b ρ M1 fun t M2 => N.nx ((ρ.set i (some s)).set j (some t)) M2) (ha : starEach (a :: [b]) X.env = (false, eval a X.env) :: starEach [b] X.env) (hb : starEach (b :: []) X.env = (false, eval b X.env) :: starEach [] X.env) :
    DS F X (.Assign [.Tuple [.Name x px, .Name y py] kt pt] (.Tuple [a, b] k2 pt2) pos) ρ M N := ⟨fun g σ H Z => of_ps (ps_par hc hN hi hj hij hx hy (pa_cons pe_s (pa_cons pe_s pa_nil hb) ha) hw hs) <|
  tS_mono (h.run g σ H Z) fun v H1 ⟨s, M1, g1, l1, r1, Z1, q1⟩ => tS_mono (q1.run g1 σ H1 Z1) fun w H2 ⟨t, M2, g2, l2, r2, Z2, q2⟩ => ⟨v, w, rfl, _, M2, g2, l1.trans l2, (Z2.set (r1.mono l2)).set r2, q2⟩⟩

/-! #### loops -/
def PvOf (K : PySem.W.Frag) (F : Fc) (g : Gh) (I : Nat → Rho → Mem → Prop) : Nat → L2.St → Hp → Prop := fun i σ H => ∃ ρ M g', Gle g g' ∧ Sim K F g' ρ M σ H ∧ I i ρ M
abbrev turnEnds (N : DEnds) (I : Rho → Mem → Prop) : DEnds := { nx := I, rt := N.rt, bk := N.nx, ct := I }
theorem turn_le {K : PySem.W.Frag} {g g' : Gh} {I : Nat → Rho → Mem → Prop} {i : Nat} (l : Gle g g') : ELe (EndsOf K F g' (turnEnds N (I i))) { EndsOf K F g N with nx := PvOf K F g I i, ct := PvOf K F g I i, bk := (EndsOf K F g N).nx } :=
  ⟨fun _ _ ⟨ρ, M, g2, k, r⟩ => ⟨ρ, M, g2, l.trans k, r⟩, fun _ _ ⟨d, ρ, M, σ, g2, k, r⟩ => ⟨d, ρ, M, σ, g2, l.trans k, r⟩, fun _ _ ⟨ρ, M, g2, k, r⟩ => ⟨ρ, M, g2, l.trans k, r⟩, fun _ _ ⟨ρ, M, g2, k, r⟩ => ⟨ρ, M, g2, l.trans k, r⟩⟩
theorem Ends_le {K : PySem.W.Frag} {g g' : Gh} {D : Ends} {bl : List Stmt} {σ : L2.St} {H : Hp} (h : sB X bl D σ H) {D' : Ends} (k : ELe D D') : sB X bl D' σ H := sB_mono h k
theorem ds_forL {tg iter : Expr} {body : List Stmt} (hp : PassesOwn (model X.prog X.w) X.A X.env X.xe) (hc : X.calm = true) (hs : ∀ x, foldedSetIterable iter X.env x = pure x)
    (h : DE F X iter ρ M fun s M' => ∃ ds, s = .d (.lst ds) ∧ ∃ I : Nat → Rho → Mem → Prop, I 0 ρ M' ∧ (∀ i d ρ' M'', ds[i]? = some d → I i ρ' M'' → DG F X tg (.d d) ρ' M'' fun ρ2 M2 => DB F X body ρ2 M2 (turnEnds N (I (i + 1)))) ∧ ∀ ρ' M'', I ds.length ρ' M'' → N.nx ρ' M'') :
    DS F X (.For tg iter body [] pos) ρ M N := ⟨fun g σ H Z => of_ps (ps_for hp hc (pi_list pe_s) pg_s pb_s hs) <|
  tS_mono (h.run g σ H Z) fun v H1 ⟨s, M', g', l, r, Z', ds, es, I, i0, turn, done⟩ => by
    subst es
    obtain ⟨a, xs, rfl, h1, h2⟩ := repLst r
    · refine ⟨a, rfl, ⟨xs, le_l Z'.sub h1⟩, for_list (K := X.K) (a := a) (xs := xs) (PvOf X.K F g' I) ⟨ρ, M', g', Gle.refl g', Z', i0⟩ (fun i σ2 H2 _ ⟨ρ2, M2, g2, l2, Z2, _⟩ => le_l (l2.G.trans Z2.sub) h1) ?_ ?_⟩
      · rintro i y σ2 H2 hi ⟨ρ2, M2, g2, l2, Z2, i2⟩
        obtain ⟨d, hd, rd⟩ := h2.getV hi
        exact gS_mono ((turn i d ρ2 M2 hd i2).run g2 σ2 H2 y Z2 (rd.mono l2.G)) fun σ3 H3 ⟨ρ3, M3, g3, l3, Z3, b3⟩ => sB_mono (b3.run g3 σ3 H3 Z3) (by
          have L := l2.trans l3
          have L' := l.trans L
          exact ⟨fun _ _ ⟨ρ, M, g2, k, r⟩ => ⟨ρ, M, g2, L.trans k, r⟩, fun _ _ ⟨d, ρ, M, σ, g2, k, r⟩ => ⟨d, ρ, M, σ, g2, L'.trans k, r⟩, fun _ _ ⟨ρ, M, g2, k, r⟩ => ⟨ρ, M, g2, L'.trans k, r⟩, fun _ _ ⟨ρ, M, g2, k, r⟩ => ⟨ρ, M, g2, L.trans k, r⟩⟩)
      · rintro σ2 H2 ⟨ρ2, M2, g2, l2, Z2, i2⟩
        rw [h2.length] at i2
        exact ⟨ρ2, M2, g2, l.trans l2, Z2, done _ _ i2⟩⟩
theorem ds_forT {tg iter : Expr} {body : List Stmt} (hp : PassesOwn (model X.prog X.w) X.A X.env X.xe) (hc : X.calm = true) (hs : ∀ x, foldedSetIterable iter X.env x = pure x)
    (h : DE F X iter ρ M fun s M' => ∃ ds, s = .d (.tup ds) ∧ ∃ I : Nat → Rho → Mem → Prop, I 0 ρ M' ∧ (∀ i d ρ' M'', ds[i]? = some d → I i ρ' M'' → DG F X tg (.d d) ρ' M'' fun ρ2 M2 => DB F X body ρ2 M2 (turnEnds N (I (i + 1)))) ∧ ∀ ρ' M'', I ds.length ρ' M'' → N.nx ρ' M'') :
    DS F X (.For tg iter body [] pos) ρ M N := ⟨fun g σ H Z => of_ps (ps_for hp hc (pi_tup pe_s) pg_s pb_s hs) <|
  tS_mono (h.run g σ H Z) fun v H1 ⟨s, M', g', l, r, Z', ds, es, I, i0, turn, done⟩ => by
    subst es
    obtain ⟨a, xs, rfl, h1, h2⟩ := repTup r
    · refine ⟨a, rfl, ⟨xs, le_t Z'.sub h1⟩, for_tup (K := X.K) (a := a) (xs := xs) (PvOf X.K F g' I) ⟨ρ, M', g', Gle.refl g', Z', i0⟩ (fun i σ2 H2 _ ⟨ρ2, M2, g2, l2, Z2, _⟩ => le_t (l2.G.trans Z2.sub) h1) ?_ ?_⟩
      · rintro i y σ2 H2 hi ⟨ρ2, M2, g2, l2, Z2, i2⟩
        obtain ⟨d, hd, rd⟩ := h2.getV hi
        exact gS_mono ((turn i d ρ2 M2 hd i2).run g2 σ2 H2 y Z2 (rd.mono l2.G)) fun σ3 H3 ⟨ρ3, M3, g3, l3, Z3, b3⟩ => sB_mono (b3.run g3 σ3 H3 Z3) (by
          have L := l2.trans l3
          have L' := l.trans L
          exact ⟨fun _ _ ⟨ρ, M, g2, k, r⟩ => ⟨ρ, M, g2, L.trans k, r⟩, fun _ _ ⟨d, ρ, M, σ, g2, k, r⟩ => ⟨d, ρ, M, σ, g2, L'.trans k, r⟩, fun _ _ ⟨ρ, M, g2, k, r⟩ => ⟨ρ, M, g2, L'.trans k, r⟩, fun _ _ ⟨ρ, M, g2, k, r⟩ => ⟨ρ, M, g2, L.trans k, r⟩⟩)
      · rintro σ2 H2 ⟨ρ2, M2, g2, l2, Z2, i2⟩
        rw [h2.length] at i2
        exact ⟨ρ2, M2, g2, l.trans l2, Z2, done _ _ i2⟩⟩
/-- for k in range(n) -/
theorem ds_forR {tg : Expr} {body : List Stmt} {p2 : Pos} (hp : PassesOwn (model X.prog X.w) X.A X.env X.xe) (hc : X.calm = true) (hg : Gl X "range") (hm : X.mg "range" = none) (hs : ∀ x, foldedSetIterable (.Call (.Name "range" p) [e] [] p2) X.env x = pure x) (hst : starEach (e :: []) X.env = (false, eval e X.env) :: starEach [] X.env)
    (h : DE F X e ρ M fun s M' => ∃ n : Int, s = .d (.int n) ∧ -(2 ^ 62) ≤ n ∧ n < 2 ^ 62 ∧ ∃ I : Nat → Rho → Mem → Prop, I 0 ρ M' ∧ (∀ (i : Nat) ρ' M'', (i : Int) < n → I i ρ' M'' → DG F X tg (.d (.int i)) ρ' M'' fun ρ2 M2 => DB F X body ρ2 M2 (turnEnds N (I (i + 1)))) ∧ ∀ ρ' M'', I n.toNat ρ' M'' → N.nx ρ' M'') :
    DS F X (.For tg (.Call (.Name "range" p) [e] [] p2) body [] pos) ρ M N := ⟨fun g σ H Z => of_ps (ps_for hp hc (pi_range1 hg hm (pa_cons pe_s pa_nil hst) hst) pg_s pb_s hs) <|
  tS_mono (h.run g σ H Z) fun v H1 ⟨s, M', g', l, r, Z', n, es, n1, n2, I, i0, turn, done⟩ => by
    subst es
    rw [rep_int r]
    refine ⟨n, rfl, n1, n2, for_range (lo := 0) (n := n.toNat) (PvOf X.K F g' I) ⟨ρ, M', g', Gle.refl g', Z', i0⟩ ?_ ?_⟩
    · rintro i σ2 H2 hi ⟨ρ2, M2, g2, l2, Z2, i2⟩
      have e0 : (0 : Int) + (i : Int) = (i : Int) := Int.zero_add _
      rw [e0]
      exact gS_mono ((turn i ρ2 M2 (by omega) i2).run g2 σ2 H2 _ Z2 rsI) fun σ3 H3 ⟨ρ3, M3, g3, l3, Z3, b3⟩ => sB_mono (b3.run g3 σ3 H3 Z3) (by
          have L := l2.trans l3
          have L' := l.trans L
          exact ⟨fun _ _ ⟨ρ, M, g2, k, r⟩ => ⟨ρ, M, g2, L.trans k, r⟩, fun _ _ ⟨d, ρ, M, σ, g2, k, r⟩ => ⟨d, ρ, M, σ, g2, L'.trans k, r⟩, fun _ _ ⟨ρ, M, g2, k, r⟩ => ⟨ρ, M, g2, L'.trans k, r⟩, fun _ _ ⟨ρ, M, g2, k, r⟩ => ⟨ρ, M, g2, L.trans k, r⟩⟩)
    · rintro σ2 H2 ⟨ρ2, M2, g2, l2, Z2, i2⟩
      exact ⟨ρ2, M2, g2, l.trans l2, Z2, done _ _ i2⟩⟩

/-! #### lists that change -/
theorem set_cont {K : PySem.W.Frag} {g : Gh} {σ : L2.St} {H : Hp} {n : Nat} {a : Addr} {ss ts : List S} {ys : List V} (Z : Sim K F g ρ M σ H) (e : M[n]? = some (.lst ss)) (ea : g.θ[n]? = some a) (r : RepSs K g ys ts) : Sim K F g ρ (M.set n (.lst ts)) σ (upd H a (.lst ys)) := Z.write e ea (by intro h; cases h) ⟨ys, upd_same, r⟩
theorem repSs_take {K : PySem.W.Frag} {g : Gh} : ∀ {vs : List V} {ss : List S} (n : Nat), RepSs K g vs ss → RepSs K g (vs.take n) (ss.take n)
  | _, _, 0, _ => by simp; exact .nil
  | _, _, n + 1, .nil => by simp; exact .nil
  | _, _, n + 1, .cons h r => .cons h (repSs_take n r)
theorem repSs_drop {K : PySem.W.Frag} {g : Gh} : ∀ {vs : List V} {ss : List S} (n : Nat), RepSs K g vs ss → RepSs K g (vs.drop n) (ss.drop n)
  | _, _, 0, r => r
  | _, _, n + 1, .nil => by simp; exact .nil
  | _, _, n + 1, .cons h r => repSs_drop n r
theorem repSs_set {K : PySem.W.Frag} {g : Gh} {v : V} {s : S} (h : RepS K g v s) : ∀ {vs : List V} {ss : List S} (n : Nat), RepSs K g vs ss → RepSs K g (vs.set n v) (ss.set n s)
  | _, _, _, .nil => .nil
  | _, _, 0, .cons _ r => .cons h r
  | _, _, n + 1, .cons k r => .cons k (repSs_set h n r)
theorem de_append {cpos : Pos} (h : DE F X o ρ M fun s M1 => ∃ n ss, s = .p n ∧ M1[n]? = some (.lst ss) ∧ DE F X e ρ M1 fun t M2 => ∃ ts, M2[n]? = some (.lst ts) ∧ ts.length < sizeLine ∧ Q (.d .non) (M2.set n (.lst (ts ++ [t]))))
    (hbase : attributeBase o "append" X.env (eval o X.env) = eval o X.env)
    (hfew : ((backTo cpos (starEach (e :: []) X.env)).all (fun x => !x.1) && (backToKw cpos (keywordEach [] X.env)).all (fun x => x.1.isSome)
      && decide ((e :: ([] : List Expr)).length + ([] : List Keyword).length + (if ([] : List Keyword).isEmpty then 0 else 1) < 30)) = true)
    (hline : (apos.endLine == cpos.line) = true) (hs : starEach (e :: []) X.env = (false, eval e X.env) :: starEach [] X.env) (hplain : (backTo cpos (starEach [] X.env)).any (·.1) = false) :
    DE F X (.Call (.Attribute o "append" apos) [e] [] cpos) ρ M Q := ⟨fun g σ H Z => of_pe (pe_bm PySem.F.plainAttrs_list PySem.F.slot_list_append PySem.F.type_list_append mt_append pe_s (pa_cons pe_s pa_nil hs) hbase hfew hline hs hplain) <|
  tS_mono (h.run g σ H Z) fun v H1 ⟨s, M1, g1, l1, r1, Z1, n, ss, es, em, q1⟩ => by
    subst es
    obtain ⟨a, rfl, ea⟩ := r1
    obtain ⟨xs, h1, h2⟩ := Z1.ob n _ a em ea
    refine ⟨Or.inl ⟨rfl, _, SqL.of h1⟩, tS_mono (q1.run g1 σ H1 Z1) fun w H2 ⟨t, M2, g2, l2, r2, Z2, ts, em2, hl, q2⟩ => ?_⟩
    have ea2 := l2.get ea
    obtain ⟨ys, h3, h4⟩ := Z2.ob n _ a em2 ea2
    refine ⟨a, ys, w, rfl, rfl, h3, by rw [h4.length]; exact hl, ?_⟩
    exact ⟨.d .non, _, g2, l1.trans l2, rsN, set_cont Z2 em2 ea2 (repSs_append h4 (.cons r2 .nil)), q2⟩⟩
theorem de_insert {cpos : Pos} {e2 : Expr} (h : DE F X o ρ M fun s M1 => ∃ n ss, s = .p n ∧ M1[n]? = some (.lst ss) ∧ DE F X e ρ M1 fun k M2 => ∃ i : Int, k = .d (.int i) ∧ 0 ≤ i ∧ i < 2 ^ 63 ∧ DE F X e2 ρ M2 fun t M3 => ∃ ts, M3[n]? = some (.lst ts) ∧ ts.length < sizeLine ∧ Q (.d .non) (M3.set n (.lst (ts.take i.toNat ++ [t] ++ ts.drop i.toNat))))
    (hbase : attributeBase o "insert" X.env (eval o X.env) = eval o X.env)
    (hfew : ((backTo cpos (starEach (e :: [e2]) X.env)).all (fun x => !x.1) && (backToKw cpos (keywordEach [] X.env)).all (fun x => x.1.isSome)
      && decide ((e :: [e2]).length + ([] : List Keyword).length + (if ([] : List Keyword).isEmpty then 0 else 1) < 30)) = true)
    (hline : (apos.endLine == cpos.line) = true) (hs : starEach (e :: [e2]) X.env = (false, eval e X.env) :: starEach [e2] X.env) (hs2 : starEach (e2 :: []) X.env = (false, eval e2 X.env) :: starEach [] X.env) (hplain : (backTo cpos (starEach [e2] X.env)).any (·.1) = false) :
    DE F X (.Call (.Attribute o "insert" apos) [e, e2] [] cpos) ρ M Q := ⟨fun g σ H Z => of_pe (pe_bm PySem.F.plainAttrs_list PySem.F.slot_list_insert PySem.F.type_list_insert mt_insert pe_s (pa_cons pe_s (pa_cons pe_s pa_nil hs2) hs) hbase hfew hline hs hplain) <|
  tS_mono (h.run g σ H Z) fun v H1 ⟨s, M1, g1, l1, r1, Z1, n, ss, es, em, q1⟩ => by
    subst es
    obtain ⟨a, rfl, ea⟩ := r1
    obtain ⟨xs, h1, h2⟩ := Z1.ob n _ a em ea
    refine ⟨Or.inl ⟨rfl, _, SqL.of h1⟩, tS_mono (q1.run g1 σ H1 Z1) fun k H2 ⟨t, M2, g2, l2, r2, Z2, i, et, i0, i1, q2⟩ => ?_⟩
    subst et
    rw [rep_int r2]
    refine tS_mono (q2.run g2 σ H2 Z2) fun w H3 ⟨t, M3, g3, l3, r3, Z3, ts, em2, hl, q3⟩ => ?_
    have ea2 := l3.get (l2.get ea)
    obtain ⟨ys, h3, h4⟩ := Z3.ob n _ a em2 ea2
    refine ⟨a, ys, i, w, rfl, rfl, h3, by rw [h4.length]; exact hl, i0, i1, ?_⟩
    exact ⟨.d .non, _, g3, (l1.trans l2).trans l3, rsN, set_cont Z3 em2 ea2 (repSs_append (repSs_append (repSs_take _ h4) (.cons r3 .nil)) (repSs_drop _ h4)), q3⟩⟩
/-- xs[i] = e, xs a list that changes -/
theorem ds_setL {ix : Expr} {p2 : Pos} (h : DE F X e ρ M fun t M1 => DE F X o ρ M1 fun s M2 => DE F X ix ρ M2 fun k M3 => ∃ n ss j i, s = .p n ∧ M3[n]? = some (.lst ss) ∧ k = .d (.int i) ∧ ixN ss.length i = some j ∧ N.nx ρ (M3.set n (.lst (ss.set j t))))
    (ha : ∀ v, assign (.Subscript o ix p2) X.env v = (do
      let ov ← holding [v] (eval o X.env)
      let iv ← holding [v, ov] (eval ix X.env)
      standAt p2
      holding [v, ov, iv] (setItem ov iv v)
      release [v, ov, iv] []))
    (hs : swapsWithSole [.Subscript o ix p2] e pos.line X.env = pure false) (hw : swappedStores [.Subscript o ix p2] e X.env = pure none) (h1 : (assignEach [.Subscript o ix p2] X.env).map (·.2) = [assign (.Subscript o ix p2) X.env]) :
    DS F X (.Assign [.Subscript o ix p2] e pos) ρ M N := ⟨fun g σ H Z => of_ps (ps_asg pe_s (pg_sub pe_s pe_s set_list ha) hs hw h1) <|
  tS_mono (h.run g σ H Z) fun v H1 ⟨t, M1, g1, l1, r1, Z1, q1⟩ => tS_mono (q1.run g1 σ H1 Z1) fun u H2 ⟨s, M2, g2, l2, r2, Z2, q2⟩ => tS_mono (q2.run g2 σ H2 Z2) fun w H3 ⟨k, M3, g3, l3, r3, Z3, n, ss, j, i, es, em, ek, hj, q⟩ => by
    subst es ek
    obtain ⟨a, rfl, ea⟩ := r2
    have ea := l3.get ea
    obtain ⟨xs, h1, h2⟩ := Z3.ob n _ a em ea
    rw [rep_int r3]
    refine ⟨a, xs, i, j, rfl, rfl, h1, by rw [h2.length]; exact hj, ?_⟩
    exact ⟨ρ, _, g3, (l1.trans l2).trans l3, set_cont Z3 em ea (repSs_set (r1.mono (l2.trans l3)) j h2), q⟩⟩
end
end DL
end

section
set_option Elab.async false
set_option linter.all false
set_option maxRecDepth 100000
set_option maxHeartbeats 2000000
namespace DL
open PySem PySem.Spec PyProof.Rows L2
section
variable {X : Cx} {F : Fc} {ρ : Rho} {M : Mem} {Q : S → Mem → Prop} {QT : Bool → Mem → Prop} {N : DEnds} {a b e o : Expr} {es : List Expr} {st : Stmt} {rest : List Stmt} {pos apos p : Pos} {x : Str}
def CPowW (i j : Int) : Prop := 0 ≤ j ∧ (Builtin.Int.intBits i : Int) * j ≤ 2 ^ 27
theorem op_powW : OpR X (binaryOp .Pow) (rI CPowW fun i j => .int (i ^ j.toNat)) := opI fun i j _ _ _ _ _ hc q => pow_int hc.1 hc.2 q
theorem bd_pow {i j : Int} (hc : CPowW i j) (q : Q (.d (.int (i ^ j.toNat))) M) : BD F X (binaryOp .Pow) (.d (.int i)) (.d (.int j)) ρ M Q := bd_iiC op_powW hc (fun _ => rsI) q
theorem bd_mulW {i j : Int} (hc : CMulW i j) (q : Q (.d (.int (i * j))) M) : BD F X (binaryOp .Mult) (.d (.int i)) (.d (.int j)) ρ M Q := bd_iiC op_mulW hc (fun _ => rsI) q
theorem bd_fdivW {i j : Int} (hc : CDivW i j) (q : Q (.d (.int (i / j))) M) : BD F X (binaryOp .FloorDiv) (.d (.int i)) (.d (.int j)) ρ M Q := bd_iiC op_fdivW hc (fun _ => rsI) q
theorem de_glob {v : V} {u : Value} {d : D} (hg : Gl X x) (hm : X.mg x = some u) (r : RelV v u) (rd : ∀ G, Rep X.K G v d) (q : Q (.d d) M) (hd : (x == ("__debug__" : Str)) = false) : DE F X (.Name x pos) ρ M Q := ⟨fun g σ H Z => of_pe (pe_glob hg hm r hd) ⟨.d d, M, g, Gle.refl g, rd _, Z, q⟩⟩
theorem de_bltn {v : V} {u : Value} (hg : Gl X x) (hm : X.mg x = none) (hv : bootBuiltins x = some u) (r : RelV v u) (q : Q (.d (.raw v)) M) (hn : x ≠ "__name__") (hd : (x == ("__debug__" : Str)) = false) : DE F X (.Name x pos) ρ M Q := ⟨fun g σ H Z => of_pe (pe_bltn hg hm hv r hn hd) ⟨.d (.raw v), M, g, Gle.refl g, Rep.raw v, Z, q⟩⟩
theorem spd1' {sd : Sd} {np n : Nat} {c : C} {ss : List S} (e : M[n]? = some c) (hc : c.flat = true) (hf : ss.all flatS = true) (hl : ss.length + 1 = np)
    (h : sd (.p 0 :: ss) [c] fun r cs' => ∃ c', cs' = [c'] ∧ Got (M.set n c') Q r) : SpD F X (spOf X.K np sd) [] (.p n :: ss) ρ M Q :=
  spd1 (ts := []) e hc (by rw [List.append_nil]; exact hf) (by rw [List.append_nil]; exact hl) (fun _ _ => .nil) (by rw [List.append_nil]; exact h)
theorem spd0' {sd : Sd} {np : Nat} {ss : List S} (hf : ss.all flatS = true) (hl : ss.length = np) (h : sd ss [] fun r _ => Got M Q r) : SpD F X (spOf X.K np sd) [] ss ρ M Q :=
  spd0 (ts := []) (by rw [List.append_nil]; exact hf) (by rw [List.append_nil]; exact hl) (fun _ => .nil) (by rw [List.append_nil]; exact h)

theorem rets_d {m : Nat} {x : D} {QR : Rs → List C → Prop} (h : (M.take m).all C.flat = true) (q : QR (.d x) (M.take m)) : RetS m (.d x) M QR := ⟨fun c hc => List.all_eq_true.mp h c hc, .inl ⟨x, rfl, q⟩⟩
theorem rets_p {m n : Nat} {c : C} {QR : Rs → List C → Prop} (h : (M.take m).all C.flat = true) (hn : m ≤ n) (e : M[n]? = some c) (hf : c.flat = true) (q : QR (.new c) (M.take m)) : RetS m (.p n) M QR := ⟨fun c hc => List.all_eq_true.mp h c hc, .inr ⟨n, c, rfl, hn, e, hf, q⟩⟩
end
end DL
end

section
set_option Elab.async false
set_option linter.all false
set_option maxRecDepth 100000
set_option maxHeartbeats 2000000
namespace DL
open PySem PySem.Spec PyProof.Rows L2
/-! ### the draws -/
theorem bits_le {x : Int} {k : Nat} (h0 : 0 < k) (h : x.natAbs < 2 ^ k) : Builtin.Int.intBits x ≤ k := by
  have z := PySem.Flt.log2_lt_of h0 h
  unfold Builtin.Int.intBits
  split <;> omega
theorem powW {x j : Int} {k : Nat} (h0 : 0 < k) (h : x.natAbs < 2 ^ k) (hj : 0 ≤ j) (hk : (k : Int) * j ≤ 2 ^ 27) : CPowW x j := ⟨hj, Int.le_trans (Int.mul_le_mul_of_nonneg_right (by have := bits_le h0 h; omega) hj) hk⟩
theorem divW {i j : Int} (h0 : 0 < j) (h : j < 2 ^ 300) : CDivW i j := wide_div h0 (b := 300) (by omega) (by decide) (by decide)
theorem mulL {i j : Int} (h1 : -(2 ^ 64) < i) (h2 : i < 2 ^ 64) : CMul i j := .inl ⟨h1, h2⟩
theorem mulR {i j : Int} (h1 : -(2 ^ 64) < j) (h2 : j < 2 ^ 64) : CMul i j := .inr ⟨h1, h2⟩
/-- a spring behind at most n draws -/
def Spr (n : Nat) (c : C) : Prop := ∃ a b t : Int, c = .lst [.d (.int a), .d (.int b), .d (.int t)] ∧ 0 ≤ a ∧ 0 ≤ b ∧ b < 10 ^ 38 ∧ 0 ≤ t ∧ t ≤ n
theorem Spr.flat {n : Nat} {c : C} (h : Spr n c) : c.flat = true := by
  obtain ⟨a, b, t, rfl, _⟩ := h
  rfl
theorem Spr.mono {n m : Nat} {c : C} (h : Spr n c) (l : n ≤ m) : Spr m c := by
  obtain ⟨a, b, t, e, h1, h2, h3, h4, h5⟩ := h
  exact ⟨a, b, t, e, h1, h2, h3, h4, by omega⟩
def sdRoll : Sd := fun ss cs Q => ∃ (n : Nat) (c : C) (m : Int), ss = [.p 0, .d (.int m)] ∧ cs = [c] ∧ Spr n c ∧ n < 2 ^ 60 ∧ 0 < m ∧ m < 2 ^ 300 ∧ ∀ r c', 0 ≤ r → r < m → Spr (n + 1) c' → Q (.d (.int r)) [c']
theorem draw_mid {b t : Int} (b0 : 0 ≤ b) (b1 : b < 10 ^ 38) (t0 : 0 ≤ t) (t1 : t < 2 ^ 61) : (b + 86028121 * t).natAbs < 2 ^ 200 := by omega
theorem draw_mid2 {x t : Int} (x0 : 0 ≤ x) (x1 : x < 10 ^ 39 + 3) (t0 : 0 ≤ t) (t1 : t < 2 ^ 61) : (x + 15485867 * t).natAbs < 2 ^ 200 := by omega
theorem mid_lt (x : Int) : 0 ≤ x % (10 ^ Int.toNat 39 + 3) ∧ x % (10 ^ Int.toNat 39 + 3) < 10 ^ 39 + 3 := ⟨Int.emod_nonneg _ (by decide), Int.emod_lt_of_pos _ (by decide)⟩
end DL
end

section
set_option Elab.async false
set_option linter.all false
set_option maxRecDepth 100000
set_option maxHeartbeats 2000000
namespace DL
open PySem PySem.Spec PyProof.Rows L2
section
variable {X : Cx} {F : Fc} {ρ : Rho} {M : Mem} {Q : S → Mem → Prop} {QT : Bool → Mem → Prop} {N : DEnds} {a b c e o : Expr} {es : List Expr} {st : Stmt} {rest : List Stmt} {pos apos p : Pos} {x : Str}
theorem got_d {x : D} (h : Q (.d x) M) : Got M Q (.d x) := h
theorem got_new {c : C} (h : Q (.p M.length) (M ++ [c])) : Got M Q (.new c) := h
/-! #### in -/
theorem bd_inSign {k : Nat} {z : Str} (q : Q (.d (.bl (decide (k ∈ z.cps.toList)))) M) : BD F X (compareOp .In) (.d (.str ⟨#[k]⟩)) (.d (.str z)) ρ M Q := bd_of op_in_sign fun g σ H u v Z ru rv => by
  rw [rep_str ru, rep_str rv]
  exact ⟨k, z, rfl, rfl, post_at Z rsB q⟩
def flatD : D → Option V
  | .non => some .non
  | .bl b => some (.bl b)
  | .int i => some (.int i)
  | .str z => some (.str z)
  | _ => none
theorem flatD_rep {K : PySem.W.Frag} {G : Hp} {v w : V} : ∀ {d : D}, flatD d = some w → Rep K G v d → v = w
  | .non, h, r => by cases h; cases r; rfl
  | .bl _, h, r => by cases h; cases r; rfl
  | .int _, h, r => by cases h; cases r; rfl
  | .str _, h, r => by cases h; cases r; rfl
def flatDs : List D → Option (List V)
  | [] => some []
  | d :: r => match flatD d, flatDs r with
    | some v, some l => some (v :: l)
    | _, _ => none
theorem flatDs_rep {K : PySem.W.Frag} {G : Hp} : ∀ {ds : List D} {vs ws : List V}, flatDs ds = some ws → RepL K G vs ds → vs = ws
  | [], _, ws, h, .nil => by cases h; rfl
  | d :: ds, _, ws, h, .cons r t => by
    unfold flatDs at h
    cases e : flatD d with
    | none => rw [e] at h; cases h
    | some v =>
      cases e2 : flatDs ds with
      | none => rw [e, e2] at h; cases h
      | some l =>
        rw [e, e2] at h
        cases h
        rw [flatD_rep e r, flatDs_rep e2 t]
theorem flatD_ok {d : D} {v : V} (h : flatD d = some v) : flatV v = true := by
  cases d <;> first | cases h; rfl | cases h
theorem flatDs_ok : ∀ {ds : List D} {ws : List V}, flatDs ds = some ws → ws.all flatV = true
  | [], ws, h => by cases h; rfl
  | d :: ds, ws, h => by
    unfold flatDs at h
    cases e : flatD d with
    | none => rw [e] at h; cases h
    | some v =>
      cases e2 : flatDs ds with
      | none => rw [e, e2] at h; cases h
      | some l =>
        rw [e, e2] at h
        cases h
        simp [flatD_ok e, flatDs_ok e2]
theorem flatDs_strs : ∀ zs : List Str, flatDs (zs.map D.str) = some (zs.map V.str)
  | [] => rfl
  | z :: zs => by simp [flatDs, flatD, flatDs_strs zs]
theorem flatDs_ints : ∀ zs : List Int, flatDs (zs.map D.int) = some (zs.map V.int)
  | [] => rfl
  | z :: zs => by simp [flatDs, flatD, flatDs_ints zs]
theorem inV_strs (z : Str) : ∀ zs : List Str, inV (.str z) (zs.map V.str) = decide (z ∈ zs)
  | [] => rfl
  | y :: zs => by
    have ih := inV_strs z zs
    unfold inV at ih ⊢
    rw [List.map_cons, List.any_cons, ih]
    show (eqV (.str y) (.str z) || decide (z ∈ zs)) = decide (z ∈ y :: zs)
    simp only [eqV, List.mem_cons]
    by_cases h : y = z
    · subst h; simp
    · have h' : ¬ z = y := fun q => h q.symm
      simp [h, h']
theorem inV_ints (z : Int) : ∀ zs : List Int, inV (.int z) (zs.map V.int) = decide (z ∈ zs)
  | [] => rfl
  | y :: zs => by
    have ih := inV_ints z zs
    unfold inV at ih ⊢
    rw [List.map_cons, List.any_cons, ih]
    show (eqV (.int y) (.int z) || decide (z ∈ zs)) = decide (z ∈ y :: zs)
    simp only [eqV, List.mem_cons]
    by_cases h : y = z
    · subst h; simp
    · have h' : ¬ z = y := fun q => h q.symm
      simp [h, h']
theorem bd_inL {neg : Bool} {d : D} {s : S} {ds : List D} {v : V} {vs : List V} (hv : view M s = some (.lst ds)) (h1 : flatD d = some v) (h2 : flatDs ds = some vs) (q : Q (.d (.bl (if neg then !inV v vs else inV v vs))) M) : BD F X (compareOp (if neg then .NotIn else .In)) (.d d) s ρ M Q := by
  have key : ∀ g σ H u w, Sim X.K F g ρ M σ H → RepS X.K g u (.d d) → RepS X.K g w s → rIn X.K neg u w H (Post X.K F ρ σ g Q) := fun g σ H u w Z ru rw' => by
    obtain ⟨a, xs, rfl, k1, k2⟩ := Z.lst rw' hv
    have e1 : u = v := flatD_rep h1 ru
    have e2 : xs = vs := flatDs_rep h2 k2
    subst e1 e2
    exact ⟨a, xs, rfl, .inl k1, flatD_ok h1, flatDs_ok h2, post_at Z rsB q⟩
  cases neg with
  | true => exact bd_of op_notIn_seq key
  | false => exact bd_of op_in_seq key
theorem bd_inT {neg : Bool} {d : D} {ds : List D} {v : V} {vs : List V} (h1 : flatD d = some v) (h2 : flatDs ds = some vs) (q : Q (.d (.bl (if neg then !inV v vs else inV v vs))) M) : BD F X (compareOp (if neg then .NotIn else .In)) (.d d) (.d (.tup ds)) ρ M Q := by
  have key : ∀ g σ H u w, Sim X.K F g ρ M σ H → RepS X.K g u (.d d) → RepS X.K g w (.d (.tup ds)) → rIn X.K neg u w H (Post X.K F ρ σ g Q) := fun g σ H u w Z ru rw' => by
    obtain ⟨a, xs, rfl, k1, k2⟩ := Z.tup rw'
    have e1 : u = v := flatD_rep h1 ru
    have e2 : xs = vs := flatDs_rep h2 k2
    subst e1 e2
    exact ⟨a, xs, rfl, .inr k1, flatD_ok h1, flatDs_ok h2, post_at Z rsB q⟩
  cases neg with
  | true => exact bd_of op_notIn_seq key
  | false => exact bd_of op_in_seq key
/-! #### a op b op' c -/
theorem de_chain {op op' : CmpOp} (h : DE F X a ρ M fun x M1 => DE F X b ρ M1 fun y M2 => BD F X (compareOp op) x y ρ M2 fun s M3 => ∃ k, s = .d (.bl k) ∧ (k = true → DE F X c ρ M3 fun z M4 => BD F X (compareOp op') y z ρ M4 Q) ∧ (k = false → Q (.d (.bl false)) M3))
    (hm : lastMarks [op, op'] [b, c] = false) : DE F X (.Compare a [op, op'] [b, c] pos) ρ M Q := ⟨fun g σ H Z => of_pe (pe_chain opr_s opr_s pe_s pe_s pe_s hm) <|
  tS_mono (h.run g σ H Z) fun u H1 ⟨x, M1, g1, l1, r1, Z1, q1⟩ => tS_mono (q1.run g1 σ H1 Z1) fun v H2 ⟨y, M2, g2, l2, r2, Z2, q2⟩ => by
    have q := q2.run g2 σ H2 u v Z2 (r1.mono l2) r2
    intro pins s σ' v' u' I rx ry
    refine thn (q pins s σ' v' u' I rx ry) fun _ _ ⟨w, H', I', r, s', M3, g3, l3, r3, Z3, k, es, q3, q4⟩ => ⟨w, H', I', r, k, ?_, ?_⟩
    · subst es; exact rep_bl r3
    · cases k with
      | false => exact ⟨.d (.bl false), M3, g3, (l1.trans l2).trans l3, rsB, Z3, q4 rfl⟩
      | true =>
        show tS X c σ H' _
        refine tS_mono ((q3 rfl).run g3 σ H' Z3) fun w' H4 ⟨z, M4, g4, l4, r4, Z4, q5⟩ => ?_
        have q := q5.run g4 σ H4 v w' Z4 (r2.mono (l3.trans l4)) r4
        intro pins s σ' v' u' I rx ry
        exact thn (q pins s σ' v' u' I rx ry) fun _ _ ⟨w, H', I', r, p⟩ => ⟨w, H', I', r, p.le (((l1.trans l2).trans l3).trans l4)⟩⟩
theorem dt_chain {op op' : CmpOp} (h : DE F X a ρ M fun x M1 => DE F X b ρ M1 fun y M2 => BD F X (compareOp op) x y ρ M2 fun s M3 => ∃ k, s = .d (.bl k) ∧ (k = true → DE F X c ρ M3 fun z M4 => BD F X (compareOp op') y z ρ M4 fun s M' => ∃ b, s = .d (.bl b) ∧ QT b M') ∧ (k = false → QT false M3))
    (hm : lastMarks [op, op'] [b, c] = false) : DT F X (.Compare a [op, op'] [b, c] pos) ρ M QT := ⟨fun g σ H Z => of_pt (pt_chain opr_s opr_s pe_s pe_s pe_s hm) <|
  tS_mono (h.run g σ H Z) fun u H1 ⟨x, M1, g1, l1, r1, Z1, q1⟩ => tS_mono (q1.run g1 σ H1 Z1) fun v H2 ⟨y, M2, g2, l2, r2, Z2, q2⟩ => by
    have q := q2.run g2 σ H2 u v Z2 (r1.mono l2) r2
    intro pins s σ' v' u' I rx ry
    refine thn (q pins s σ' v' u' I rx ry) fun _ _ ⟨w, H', I', r, s', M3, g3, l3, r3, Z3, k, es, q3, q4⟩ => ⟨w, H', I', r, k, ?_, ?_⟩
    · subst es; exact rep_bl r3
    · cases k with
      | false => exact ⟨false, rfl, M3, g3, (l1.trans l2).trans l3, Z3, q4 rfl⟩
      | true =>
        show tS X c σ H' _
        refine tS_mono ((q3 rfl).run g3 σ H' Z3) fun w' H4 ⟨z, M4, g4, l4, r4, Z4, q5⟩ => ?_
        have q := q5.run g4 σ H4 v w' Z4 (r2.mono (l3.trans l4)) r4
        intro pins s σ' v' u' I rx ry
        refine thn (q pins s σ' v' u' I rx ry) fun _ _ ⟨w, H', I', r, s5, M5, g5, l5, r5, Z5, b5, e5, q6⟩ => ⟨w, H', I', r, b5, ?_, M5, g5, (((l1.trans l2).trans l3).trans l4).trans l5, Z5, q6⟩
        subst e5
        exact rep_bl r5⟩
/-! #### isinstance -/
def tyD : D → Option String
  | .non => some "NoneType"
  | .bl _ => some "bool"
  | .int _ => some "int"
  | .str _ => some "str"
  | .lst _ => some "list"
  | .tup _ => some "tuple"
  | _ => none
theorem tyX_list {K : PySem.W.Frag} {H : Hp} {a : Addr} {xs : List V} (h : SqL K H a xs) : TyX K H (.ref a) (.type "list") := by
  rcases h with (h | ⟨o, h⟩) | ⟨o, its, n, hk, hc, _⟩
  · exact .base (.lst h)
  · exact .base (.frz h)
  · exact .kList hk hc
theorem tyX_tup {K : PySem.W.Frag} {H : Hp} {a : Addr} {xs : List V} (h : SqT K H a xs) : TyX K H (.ref a) (.type "tuple") := by
  rcases h with (h | ⟨o, h⟩) | ⟨o, its, n, hk, hc, _⟩
  · exact .base (.tup h)
  · exact .fTuple h
  · exact .kTuple hk hc
theorem tyD_rep {K : PySem.W.Frag} {F : Fc} {g : Gh} {σ : L2.St} {H : Hp} {v : V} {T : String} (Z : Sim K F g ρ M σ H) : ∀ {d : D}, tyD d = some T → RepS K g v (.d d) → TyX K H v (.type T)
  | .non, h, r => by cases h; cases (show Rep K g.G v .non from r); exact .base .non
  | .bl _, h, r => by cases h; rw [rep_bl r]; exact .base (.bl _)
  | .int _, h, r => by cases h; rw [rep_int r]; exact .base (.int _)
  | .str _, h, r => by cases h; rw [rep_str r]; exact .base (.str _)
  | .lst ds, h, r => by
    cases h
    obtain ⟨a, xs, rfl, h1, _⟩ := Z.lst (ds := ds) r rfl
    exact tyX_list h1
  | .tup ds, h, r => by
    cases h
    obtain ⟨a, xs, rfl, h1, _⟩ := Z.tup (ds := ds) r
    exact tyX_tup h1
theorem cd_isi {d : D} {T U : String} {r : Bool} (h : tyD d = some T) (hk : kitB T U = some r) (q : Q (.d (.bl r)) M) : CD F X (.builtin "isinstance") [.d d, .d (.raw (.ty U))] ρ M Q := cd_of call_isi fun g σ H us Z ru => by
  obtain ⟨v, w, rfl, rv, rw'⟩ := ss2 ru
  rw [show w = .ty U from rep_raw rw']
  exact ⟨v, .ty U, .type T, .type U, r, rfl, .ty U, tyD_rep Z h rv, kit_ty hk, post_at Z rsB q⟩
/-! #### all -/
theorem repL_bls {K : PySem.W.Frag} {G : Hp} : ∀ {bs : List Bool} {vs : List V}, RepL K G vs (bs.map D.bl) → vs = bs.map V.bl
  | [], _, .nil => rfl
  | b :: bs, _, .cons r t => by rw [rep_bl r, repL_bls t]; rfl
theorem cd_all {bs : List Bool} (hc : X.calm = true) (q : Q (.d (.bl (bs.all id))) M) : CD F X (.builtin "all") [.d (.lst (bs.map D.bl))] ρ M Q := cd_of (cr_all hc) fun g σ H us Z ru => by
  obtain ⟨v, rfl, rv⟩ := ss1 ru
  obtain ⟨a, xs, rfl, h1, h2⟩ := Z.lst (ds := bs.map D.bl) rv rfl
  rw [repL_bls h2] at h1
  exact ⟨a, bs, rfl, h1, post_at Z rsB q⟩
/-! #### slices -/
def oP (X : Cx) (e : Option Expr) : TO := fun σ H Q => ∀ pins s, Inv X pins σ H s → wpAny (model X.prog X.w) X.A (evalPart e X.env) (fun u s' => ∃ o H', Inv X pins σ H' s' ∧ IsPart u o ∧ Q o H') X.xe s
theorem po_s {e : Option Expr} : PO X e (oP X e) := ⟨fun pins s _ _ _ I h => h pins s I⟩
structure DO (F : Fc) (X : Cx) (e : Option Expr) (ρ : Rho) (M : Mem) (Q : Option Int → Mem → Prop) : Prop where
  run : ∀ g σ H, Sim X.K F g ρ M σ H → oP X e σ H fun o H' => ∃ M' g', Gle g g' ∧ Sim X.K F g' ρ M' σ H' ∧ Q o M'
theorem do_none {QO : Option Int → Mem → Prop} (q : QO none M) : DO F X none ρ M QO := ⟨fun g σ H Z pins s I => po_none.run pins s σ H _ I ⟨M, g, Gle.refl g, Z, q⟩⟩
theorem do_some {QO : Option Int → Mem → Prop} (h : DE F X e ρ M fun s M' => ∃ i, s = .d (.int i) ∧ QO (some i) M') : DO F X (some e) ρ M QO := ⟨fun g σ H Z pins s I => (po_some pe_s).run pins s σ H _ I <|
  tS_mono (h.run g σ H Z) fun v H1 ⟨s, M', g', l, r, Z', i, es, q⟩ => by
    subst es
    exact ⟨i, rep_int r, M', g', l, Z', q⟩⟩
def slS (X : Cx) : V → Option Int → Option Int → Hp → VK → Prop := fun x lo hi H Q => ∀ pins s σ v vl vu sl, Inv X pins σ H s → RelV x v → s.heap.IsSliceOf sl vl vu .none → IsPart vl lo → IsPart vu hi →
    ∃ T id, typeLookup (.type T) "__getitem__" = pure (some (.builtin id)) ∧ s.TypeIs v T ∧ wpAny (model X.prog X.w) X.A (getItem v (.ref sl)) (EP X pins σ Q) X.xe s
theorem slr_s : SlR X (slS X) := fun pins s σ H x v vl vu lo hi sl Q I rx hs pl pu h => h pins s σ v vl vu sl I rx hs pl pu
structure LD (F : Fc) (X : Cx) (x : S) (lo hi : Option Int) (ρ : Rho) (M : Mem) (Q : S → Mem → Prop) : Prop where
  run : ∀ g σ H u, Sim X.K F g ρ M σ H → RepS X.K g u x → slS X u lo hi H (Post X.K F ρ σ g Q)
theorem slS_mono {x : V} {lo hi : Option Int} {H : Hp} {Q Q' : VK} (h : slS X x lo hi H Q) (k : ∀ v H, Q v H → Q' v H) : slS X x lo hi H Q' := fun pins s σ v vl vu sl I rx hs pl pu => by
  obtain ⟨T, id, h1, h2, h3⟩ := h pins s σ v vl vu sl I rx hs pl pu
  exact ⟨T, id, h1, h2, thn h3 fun _ _ ⟨w, H', I', r, q⟩ => ⟨w, H', I', r, k _ _ q⟩⟩
theorem de_slice {lo hi : Option Expr} {p2 : Pos} (h : DE F X e ρ M fun x M1 => DO F X lo ρ M1 fun l M2 => DO F X hi ρ M2 fun u M3 => LD F X x l u ρ M3 Q) : DE F X (.Subscript e (.Slice lo hi none p2) pos) ρ M Q := ⟨fun g σ H Z => of_pe (pe_slice slr_s pe_s po_s po_s) <|
  tS_mono (h.run g σ H Z) fun u H1 ⟨x, M1, g1, l1, r1, Z1, q1⟩ => fun pins s I => thn (q1.run g1 σ H1 Z1 pins s I) fun _ _ ⟨ol, H2, I2, pl, M2, g2, l2, Z2, q2⟩ => ⟨ol, H2, I2, pl, fun pins s I => thn (q2.run g2 σ H2 Z2 pins s I) fun _ _ ⟨ou, H3, I3, pu, M3, g3, l3, Z3, q3⟩ => ⟨ou, H3, I3, pu,
    slS_mono (q3.run g3 σ H3 u Z3 (r1.mono (l2.trans l3))) fun _ _ p => p.le ((l1.trans l2).trans l3)⟩⟩⟩
theorem ld_str {z : Str} {lo hi : Option Int} (hz : z.length ≤ sizeLine) (q : Q (.d (.str (cutS z lo hi))) M) : LD F X (.d (.str z)) lo hi ρ M Q := ⟨fun g σ H u Z r pins s σ' v vl vu sl I rx hs pl pu => sl_str pins s σ' H u v vl vu lo hi sl _ I rx hs pl pu (by
  rw [rep_str r]
  exact ⟨z, rfl, hz, post_at Z rsS q⟩)⟩
def cutL {α : Type} (xs : List α) (lo hi : Option Int) : List α := (xs.drop (HT.sIx xs.length 0 lo)).take (HT.sIx xs.length xs.length hi - HT.sIx xs.length 0 lo)
theorem repL_take {K : PySem.W.Frag} {G : Hp} : ∀ {vs : List V} {ss : List D} (n : Nat), RepL K G vs ss → RepL K G (vs.take n) (ss.take n)
  | _, _, 0, _ => by simp; exact .nil
  | _, _, n + 1, .nil => by simp; exact .nil
  | _, _, n + 1, .cons h r => .cons h (repL_take n r)
theorem repL_drop {K : PySem.W.Frag} {G : Hp} : ∀ {vs : List V} {ss : List D} (n : Nat), RepL K G vs ss → RepL K G (vs.drop n) (ss.drop n)
  | _, _, 0, r => r
  | _, _, n + 1, .nil => by simp; exact .nil
  | _, _, n + 1, .cons h r => repL_drop n r
theorem repL_cut {K : PySem.W.Frag} {G : Hp} {vs : List V} {ds : List D} {lo hi : Option Int} (r : RepL K G vs ds) : RepL K G (cutV vs lo hi) (cutL ds lo hi) := by
  unfold cutV cutL
  rw [r.length]
  exact repL_take _ (repL_drop _ r)
/-- s[::-1] -/
def revS (z : Str) : Str := ⟨z.cps.toList.reverse.toArray⟩
theorem slice_back (x : Str) (t : Tok) (u v : Tok) : PySem.sliceMade x t none none (some (-1, v)) = .str (revS x) := by
  unfold PySem.sliceMade
  have h1 : (((some ((-1 : Int), v)).map (·.1)).getD 1 == 1) = false := rfl
  have h2 : PySem.slicePicked x none none (some (-1, v)) = (List.range x.length).reverse := by
    show sliceRange ((x.length : Int) - 1) (-1) (-1) = _
    rw [PySem.W.krv_sliceRange, PySem.W.krv_range]
  rw [h1, h2]
  simp only [Bool.false_and, Bool.false_eq_true, if_false]
  show Made.str ⟨(List.filterMap (x.cps[·]?) (List.range x.cps.size).reverse).toArray⟩ = _
  rw [List.filterMap_reverse, PySem.W.krv_all]
  rfl
end
end DL
end

section
set_option Elab.async false
set_option linter.all false
set_option maxRecDepth 100000
set_option maxHeartbeats 2000000
namespace DL
open PySem PySem.Spec PyProof.Rows L2
section
variable {X : Cx} {F : Fc} {ρ : Rho} {M : Mem} {Q : S → Mem → Prop} {QT : Bool → Mem → Prop} {N : DEnds} {a b c e o : Expr} {es : List Expr} {st : Stmt} {rest : List Stmt} {pos apos p : Pos} {x : Str}
theorem revS_length (z : Str) : (revS z).length = z.length := by
  show (z.cps.toList.reverse.toArray).size = z.cps.size
  simp
def tRevS (te : TE) : TE := fun σ H Q => te σ H fun x H1 => ∃ z, x = .str z ∧ z.length ≤ sizeLine ∧ Q (.str (revS z)) H1
theorem pe_revS {te : TE} {k : Nat} {p1 p2 p3 : Pos} (he : PE X e te) : PE X (.Subscript e (.Slice none none (some (.UnaryOp .USub (.Constant (.int 1) k p1) p2)) p3) pos) (tRevS te) := by
  refine ⟨fun pins s σ H Q I h => ?_⟩
  refine Subscript_ (thn (he.run pins s σ H _ I h) fun v s1 ⟨x, H1, I1, r1, q1⟩ => ?_)
  obtain ⟨z, ex, hz, q⟩ := q1
  subst ex
  obtain ⟨t, rfl⟩ := r1
  have hst : PO X (some (.UnaryOp .USub (.Constant (.int 1) k p1) p2)) (tPart (tUn (rU fun i => .int (-i)) (tC (.int 1)))) := po_some (pe_un un_neg pe_int)
  refine wpAny_Slice (thn (po_none.run pins s1 σ H1 (fun o H2 => o = none ∧ H2 = H1) I1 ⟨rfl, rfl⟩) fun vl s2 ⟨l, H2, I2, pl, el, e2⟩ => ?_)
  subst el e2
  refine thn (po_none.run pins s2 σ H2 (fun o H3 => o = none ∧ H3 = H2) I2 ⟨rfl, rfl⟩) fun vu s3 ⟨u, H3, I3, pu, eu, e3⟩ => ?_
  subst eu e3
  refine thn (hst.run pins s3 σ H3 (fun o H4 => o = some (-1) ∧ H4 = H3) I3 ⟨1, rfl, -1, rfl, rfl, rfl⟩) fun vs s4 ⟨o, H4, I4, ps, eo, e4⟩ => ?_
  subst eo e4
  have I5 : Inv X pins σ H4 { s4 with heap := s4.heap.push { cls := .type "slice", data := .fields #[vl, vu, vs] } } := I4.kept (t' := s4.toks) fun b ob q => Heap.get?_push_of_some _ q
  show wpAny (model X.prog X.w) X.A (subscriptTail e (.Slice none none (some (.UnaryOp .USub (.Constant (.int 1) k p1) p2)) p3) (.str z t) (.ref s4.heap.objs.size)) (EP X pins σ Q) X.xe { s4 with heap := s4.heap.push { cls := .type "slice", data := .fields #[vl, vu, vs] } }
  refine tail_any (ops := [.ref s4.heap.objs.size, .str z t]) (typeIs_str _ _ _) F.slot_str_getitem.lookup ?_ (by with_unfolding_all rfl)
  obtain ⟨l, rfl, hl⟩ := IsPart.raw pl
  obtain ⟨u, rfl, hu⟩ := IsPart.raw pu
  obtain ⟨w, rfl, hw⟩ := IsPart.raw ps
  cases l with
  | some _ => cases hl
  | none =>
    cases u with
    | some _ => cases hu
    | none =>
      cases w with
      | none => cases hw
      | some w =>
        obtain ⟨i, tk⟩ := w
        have : i = -1 := (Option.some.inj hw)
        subst this
        refine wpAny_getItem_str_slice (l := none) (u := none) (st := some (-1, tk)) ⟨_, Heap.get?_push_size _ rfl, rfl, rfl⟩ rfl ?_
        rw [slice_back z t tk tk]
        exact ⟨by rw [revS_length]; exact hz, .str (revS z), H4, I5.tok _, ⟨_, rfl⟩, q⟩
theorem de_revS {k : Nat} {p1 p2 p3 : Pos} (h : DE F X e ρ M fun s M' => ∃ z : Str, s = .d (.str z) ∧ z.length ≤ sizeLine ∧ Q (.d (.str (revS z))) M') : DE F X (.Subscript e (.Slice none none (some (.UnaryOp .USub (.Constant (.int 1) k p1) p2)) p3) pos) ρ M Q := ⟨fun g σ H Z => of_pe (pe_revS pe_s) <|
  tS_mono (h.run g σ H Z) fun v H1 ⟨s, M', g', l, r, Z', z, es, hz, q⟩ => by
    subst es
    exact ⟨z, rep_str r, hz, .d (.str (revS z)), M', g', l, rsS, Z', q⟩⟩
end
end DL
end

section
set_option Elab.async false
set_option linter.all false
set_option maxRecDepth 100000
set_option maxHeartbeats 2000000
namespace DL
open PySem PySem.Spec PyProof.Rows L2
section
variable {X : Cx} {F : Fc} {ρ : Rho} {M : Mem} {Q : S → Mem → Prop} {QT : Bool → Mem → Prop} {N : DEnds} {a b c e o : Expr} {es : List Expr} {st : Stmt} {rest : List Stmt} {pos apos p : Pos} {x : Str}
/-! #### comprehensions -/
abbrev Blk (X : Cx) (scope : Scope) (s : Shared) (H : Hp) (C : Addr) (cl : List (Str × Addr)) (fp : List Addr) : Cx := X.blk s H scope (compEnvC scope cl C X.env) fp
def ttS (X : Cx) (ifs : List Expr) : TT := fun σ H Q => ∀ pins s, Inv X pins σ H s → wpAny (model X.prog X.w) X.A (forIn ifs true fun c r => if r = true then do let ok ← isTrue c X.env (eval c X.env); pure (ForInStep.yield ok) else pure (ForInStep.yield r)) (TP X pins σ Q) X.xe s
structure DTs (F : Fc) (X : Cx) (e : List Expr) (ρ : Rho) (M : Mem) (Q : Bool → Mem → Prop) : Prop where
  run : ∀ g σ H, Sim X.K F g ρ M σ H → ttS X e σ H (PostT X.K F ρ σ g Q)
theorem dts_nil (q : QT true M) : DTs F X [] ρ M QT := ⟨fun g σ H Z pins s I => pts_nil.run pins s σ H _ I ⟨M, g, Gle.refl g, Z, q⟩⟩
theorem dts_one (h : DT F X c ρ M QT) : DTs F X [c] ρ M QT := ⟨fun g σ H Z pins s I => (pts_one pt_s).run pins s σ H _ I (h.run g σ H Z)⟩
def teA (X : Cx) (scope : Scope) (e : Expr) : TE := fun σ H Q => ∀ s H' C cl fp, tS (Blk X scope s H' C cl fp) e σ H Q
def ttA (X : Cx) (scope : Scope) (ifs : List Expr) : TT := fun σ H Q => ∀ s H' C cl fp, ttS (Blk X scope s H' C cl fp) ifs σ H Q
theorem teA_mono {scope : Scope} {e : Expr} {σ : L2.St} {H : Hp} {Q Q' : VK} (h : teA X scope e σ H Q) (k : ∀ v H', Q v H' → Q' v H') : teA X scope e σ H Q' := fun s H' C cl fp => tS_mono (h s H' C cl fp) k
theorem ttA_mono {scope : Scope} {e : List Expr} {σ : L2.St} {H : Hp} {Q Q' : Bool → Hp → Prop} (h : ttA X scope e σ H Q) (k : ∀ v H', Q v H' → Q' v H') : ttA X scope e σ H Q' := fun s H' C cl fp pins s1 I =>
  thn (h s H' C cl fp pins s1 I) fun _ _ ⟨H', I', q⟩ => ⟨H', I', k _ H' q⟩
/-- one turn: the test, the element -/
def LcTurn (F : Fc) (X : Cx) (scope : Scope) (ifs : List Expr) (elt : Expr) (ρ' : Rho) (m : Nat) (acc : List D) (M1 : Mem) (yes : List D → Mem → Prop) (no : Mem → Prop) : Prop :=
  ∀ s H' C cl fp, DTs F (Blk X scope s H' C cl fp) ifs ρ' (M1 ++ [.lst (acc.map S.d)]) fun k M2 =>
    (k = true → ∀ s H' C cl fp, DE F (Blk X scope s H' C cl fp) elt ρ' M2 fun t M3 => ∃ y M4, t = .d y ∧ M3 = M4 ++ [.lst (acc.map S.d)] ∧ M4.length = m ∧ acc.length < sizeLine ∧ yes (acc ++ [y]) M4) ∧
    (k = false → ∃ M4, M2 = M4 ++ [.lst (acc.map S.d)] ∧ M4.length = m ∧ no M4)
def LcPv (K : PySem.W.Frag) (F : Fc) (g : Gh) (D0 : Addr) (ρ : Rho) (σ : L2.St) (m : Nat) (I : Nat → List D → Mem → Prop) (i : Nat) (H : Hp) : Prop :=
  ∃ acc M1 G', Le g.G G' ∧ M1.length = m ∧ Sim K F ⟨G', g.θ ++ [D0]⟩ ρ (M1 ++ [.lst (acc.map S.d)]) σ H ∧ I i acc M1

theorem Sim.wipe {K : PySem.W.Frag} {g : Gh} {σ : L2.St} {H : Hp} (Z : Sim K F g ρ M σ H) (i : Nat) : Sim K F g (ρ.set i none) M (σ.set i none) H := by
  refine { Z with ln := by simp [Z.ln], sl := fun j t e => ?_ }
  by_cases h : i = j
  · subst h
    by_cases hi : i < ρ.length
    · rw [List.getElem?_set_self hi] at e
      injection e with e; cases e
    · rw [List.getElem?_eq_none (by simp; omega)] at e; cases e
  · rw [List.getElem?_set_ne h] at e
    obtain ⟨w, h1, h2⟩ := Z.sl j t e
    exact ⟨w, by rw [List.getElem?_set_ne h]; exact h1, h2⟩
theorem Sim.drop {K : PySem.W.Frag} {g : Gh} {ρ1 : Rho} {σ σ1 : L2.St} {H H1 G : Hp} {D0 : Addr} {M1 : Mem} {c : C} (Z : Sim K F g ρ M σ H) (Z1 : Sim K F ⟨G, g.θ ++ [D0]⟩ ρ1 (M1 ++ [c]) σ1 H1) (l : Le g.G G) (hf : M1.all C.fd = true) : Sim K F ⟨G, g.θ⟩ ρ M1 σ H1 := by
  have ml : M1.length = g.θ.length := by have := Z1.ml; simp at this; exact this
  have key : ∀ (i : Nat) (c' : C) (a : Addr), M1[i]? = some c' → g.θ[i]? = some a → (M1 ++ [c])[i]? = some c' ∧ (g.θ ++ [D0])[i]? = some a := fun i c' a e1 e2 => by
    rw [List.getElem?_append_left (List.getElem?_eq_some_iff.mp e1).1, List.getElem?_append_left (List.getElem?_eq_some_iff.mp e2).1]
    exact ⟨e1, e2⟩
  have L : Gle g ⟨G, g.θ⟩ := ⟨l, [], by simp⟩
  refine ⟨Z1.sub, Z.ln, fun i t e => ?_, ml, fun i c' a e1 e2 => ?_, Z.nd, fun a h => Z1.tr a (List.mem_append_left _ h), fun i c' a e1 e2 => ?_, Z.pre, Z1.fr, Z.own, Z1.gn, Z1.g0⟩
  · obtain ⟨v, h1, h2⟩ := Z.sl i t e
    exact ⟨v, h1, h2.mono L⟩
  · obtain ⟨k1, k2⟩ := key i c' a e1 e2
    exact Cont.fd (List.all_eq_true.mp hf c' (List.mem_of_getElem? e1)) (Z1.ob i c' a k1 k2)
  · obtain ⟨k1, k2⟩ := key i c' a e1 e2
    exact Z1.go i c' a k1 k2
theorem lc_start {K : PySem.W.Frag} {g : Gh} {σ : L2.St} {H : Hp} {D0 : Addr} {I : Nat → List D → Mem → Prop} {i : Nat} (Z : Sim K F g ρ M σ H) (hD : H D0 = none) (i0 : I 0 [] M) : LcPv K F g D0 (ρ.set i none) (σ.set i none) M.length I 0 (upd H D0 (.lst [])) := by
  have L0 : Gle g ⟨g.G, g.θ ++ [D0]⟩ := ⟨Le.refl _, [D0], rfl⟩
  obtain ⟨Z', L⟩ := Z.allocP (o := .lst []) (c := .lst []) hD ⟨[], upd_same, .nil⟩
  exact ⟨[], M, g.G, Le.refl _, rfl, Z'.wipe i, i0⟩
theorem lc_end {K : PySem.W.Frag} {g g0 : Gh} {σ : L2.St} {H H1 : Hp} {D0 : Addr} {I : Nat → List D → Mem → Prop} {i n : Nat} (Z : Sim K F g ρ M σ H) (l0 : Gle g0 g) (P : LcPv K F g D0 (ρ.set i none) (σ.set i none) M.length I n H1)
    (hd : ∀ acc M1, I n acc M1 → M1.length = M.length → M1.all C.fd = true ∧ Q (.d (.lst acc)) M1) : Post K F ρ σ g0 Q (.ref D0) H1 := by
  obtain ⟨acc, M1, G', l, hl, Z1, q⟩ := P
  obtain ⟨hf, q⟩ := hd acc M1 q hl
  obtain ⟨pl, pe⟩ := Z.pre
  have hθ : F.θ0.length ≤ M1.length := by rw [hl, Z.ml, pe, List.length_append]; omega
  obtain ⟨a, G'', ea, Z2, L2', r⟩ := Z1.freeze (n := M1.length) (ss := acc.map S.d) (ds := acc) (by rw [List.getElem?_append_right (Nat.le_refl _)]; simp) (datas_map acc) hθ
  have : a = D0 := by
    have ml : M1.length = g.θ.length := by rw [hl, Z.ml]
    rw [show (({ G := G', θ := g.θ ++ [D0] } : Gh).θ) = g.θ ++ [D0] from rfl, ml, List.getElem?_append_right (Nat.le_refl _)] at ea
    simp at ea
    exact ea.symm
  subst this
  have e : (M1 ++ [C.lst (acc.map S.d)]).set M1.length .dead = M1 ++ [C.dead] := by
    rw [List.set_append_right _ _ (Nat.le_refl _)]; simp
  rw [e] at Z2
  have Z3 := Z.drop Z2 (l.trans L2'.G) hf
  exact ⟨.d (.lst acc), M1, ⟨G'', g.θ⟩, l0.trans ⟨l.trans L2'.G, [], by simp⟩, r, Z3, q⟩
theorem lc_step {g : Gh} {σ : L2.St} {H : Hp} {D0 : Addr} {I : Nat → List D → Mem → Prop} {i k m : Nat} {scope : Scope} {ifs : List Expr} {elt : Expr} {d : D} {v : V} (r : Rep X.K g.G v d) (hm : m = g.θ.length) (P : LcPv X.K F g D0 (ρ.set i none) (σ.set i none) m I k H)
    (ht : ∀ acc M1, I k acc M1 → M1.length = m → LcTurn F X scope ifs elt ((ρ.set i none).set i (some (.d d))) m acc M1 (fun acc' M4 => I (k + 1) acc' M4) (fun M4 => I (k + 1) acc M4)) :
    (((σ.set i none).set i (some v)).set i none = σ.set i none) ∧ ttA X scope ifs ((σ.set i none).set i (some v)) H fun bb H3 =>
      if bb = true then teA X scope elt ((σ.set i none).set i (some v)) H3 fun y H4 => ∃ acc, H4 D0 = some (.lst acc) ∧ acc.length < sizeLine ∧ LcPv X.K F g D0 (ρ.set i none) (σ.set i none) m I (k + 1) (upd H4 D0 (.lst (acc ++ [y])))
      else LcPv X.K F g D0 (ρ.set i none) (σ.set i none) m I (k + 1) H3 := by
  obtain ⟨acc, M1, G', l, hl, Z1, q⟩ := P
  have Zs := Z1.set (i := i) (v := v) (s := .d d) (Rep.mono l r)
  have ed : ((σ.set i none).set i (some v)).set i none = σ.set i none := by rw [List.set_set, List.set_set]
  have er : ((ρ.set i none).set i (some (S.d d))).set i none = ρ.set i none := by rw [List.set_set, List.set_set]
  refine ⟨ed, fun s H' C' cl fp => ?_⟩
  have key : ∀ {g4 : Gh} {M4 : Mem} {c : C}, Gle ⟨G', g.θ ++ [D0]⟩ g4 → (M4 ++ [c]).length = g4.θ.length → M4.length = m → g4.θ = g.θ ++ [D0] := fun {g4 M4 c} l4 h4 hl4 => by
    obtain ⟨t, et⟩ := l4.θ
    have : t = [] := by
      have e2 : g4.θ.length = m + 1 := by rw [← h4]; simp [hl4]
      rw [et] at e2
      simp at e2
      rw [← hm] at e2
      exact List.eq_nil_of_length_eq_zero (by omega)
    rw [et, this, List.append_nil]
  intro pins s1 I1
  refine thn ((ht acc M1 q hl s H' C' cl fp).run _ _ _ Zs pins s1 I1) fun bb s2 ⟨H3, I3, M2, g3, l3, Z3, q1, q2⟩ => ⟨H3, I3, ?_⟩
  cases bb with
  | false =>
    obtain ⟨M4, e4, hl4, q4⟩ := q2 rfl
    subst e4
    have eθ := key l3 Z3.ml hl4
    have Z4 := Z3.wipe i
    rw [ed, er] at Z4
    obtain ⟨G3, θ3⟩ := g3
    have eθ : θ3 = g.θ ++ [D0] := eθ
    subst eθ
    exact ⟨acc, M4, G3, l.trans l3.G, hl4, Z4, q4⟩
  | true =>
    show teA X scope elt _ H3 _
    intro s H' C' cl fp
    refine tS_mono ((q1 rfl s H' C' cl fp).run _ _ _ Z3) fun y H4 ⟨t, M3, g4, l4, r4, Z4, yd, M4, et, e4, hl4, hsz, q4⟩ => ?_
    subst et e4
    have eθ := key (l3.trans l4) Z4.ml hl4
    obtain ⟨G4, θ4⟩ := g4
    have eθ : θ4 = g.θ ++ [D0] := eθ
    subst eθ
    have e1 : (M4 ++ [C.lst (acc.map S.d)])[m]? = some (C.lst (acc.map S.d)) := by rw [← hl4, List.getElem?_append_right (Nat.le_refl _)]; simp
    have e2 : (g.θ ++ [D0])[m]? = some D0 := by rw [hm, List.getElem?_append_right (Nat.le_refl _)]; simp
    obtain ⟨xs, h1, h2⟩ := Z4.ob m _ D0 e1 e2
    refine ⟨xs, h1, by rw [h2.length]; simpa using hsz, ?_⟩
    have Z5 := (set_cont Z4 e1 e2 (repSs_append h2 (.cons r4 .nil))).wipe i
    rw [ed, er] at Z5
    have e5 : (M4 ++ [C.lst (acc.map S.d)]).set m (C.lst (acc.map S.d ++ [S.d yd])) = M4 ++ [C.lst ((acc ++ [yd]).map S.d)] := by
      rw [← hl4, List.set_append_right _ _ (Nat.le_refl _)]; simp
    rw [e5] at Z5
    exact ⟨acc ++ [yd], M4, G4, l.trans (l3.G.trans l4.G), hl4, Z5, q4⟩
theorem de_lcL {i : Nat} {px : Pos} {elt iter : Expr} {ifs : List Expr} {scope : Scope} (hc : X.calm = true) (hN : X.N.Nodup) (ok : BlkOk X.N X.env.scope scope [(x, i)])
    (hg : ∀ (s : Shared) (H : Hp) (C : Addr) (cl : List (Str × Addr)) (fp : List Addr), PG (X.blk s H scope (compEnvC scope cl C X.env) fp) (.Name x px) (gName i)) (hs : ∀ x, foldedSetIterable iter X.env x = pure x)
    (h : DE F X iter ρ M fun s M' => ∃ ds, s = .d (.lst ds) ∧ ∃ I : Nat → List D → Mem → Prop, I 0 [] M' ∧ (∀ k d acc M1, ds[k]? = some d → I k acc M1 → M1.length = M'.length → LcTurn F X scope ifs elt ((ρ.set i none).set i (some (.d d))) M'.length acc M1 (fun acc' M4 => I (k + 1) acc' M4) (fun M4 => I (k + 1) acc M4)) ∧
      ∀ acc M1, I ds.length acc M1 → M1.length = M'.length → M1.all C.fd = true ∧ Q (.d (.lst acc)) M1) : DE F X (.ListComp elt [⟨.Name x px, iter, ifs, 0⟩] scope pos) ρ M Q := ⟨fun g σ H Z => of_pe (pe_lc (own := [(x, i)]) (g := gName i) (tt := ttA X scope ifs) (te := teA X scope elt) hc hN (pi_list pe_s) ok hg
      (fun s H C cl fp => ⟨fun pins s1 σ H' Q I h => h s H C cl fp pins s1 I⟩) (fun s H C cl fp => ⟨fun pins s1 σ H' Q I h => h s H C cl fp pins s1 I⟩) hs) <|
  tS_mono (h.run g σ H Z) fun v H1 ⟨s, M', g', l, r, Z', ds, es, I, i0, turn, done⟩ => by
    subst es
    obtain ⟨a, xs, rfl, h1, h2⟩ := repLst r
    refine ⟨a, rfl, ⟨xs, le_l Z'.sub h1⟩, fun D0 hD => lc_list (K := X.K) (a := a) (xs := xs) (LcPv X.K F g' D0 (ρ.set i none) (σ.set i none) M'.length I) (lc_start Z' hD i0) (fun k H2 _ ⟨acc, M1, G', l', _, Z1, _⟩ => le_l (l'.trans Z1.sub) h1) (fun k y H2 hk P => ?_) (fun H2 P => ?_)⟩
    · obtain ⟨d, hd, rd⟩ := h2.getV hk
      exact lc_step (v := y) rd Z'.ml P (fun acc M1 q hl => turn k d acc M1 hd q hl)
    · rw [h2.length] at P
      exact lc_end Z' l P done⟩
theorem de_lcT {i : Nat} {px : Pos} {elt iter : Expr} {ifs : List Expr} {scope : Scope} (hc : X.calm = true) (hN : X.N.Nodup) (ok : BlkOk X.N X.env.scope scope [(x, i)])
    (hg : ∀ (s : Shared) (H : Hp) (C : Addr) (cl : List (Str × Addr)) (fp : List Addr), PG (X.blk s H scope (compEnvC scope cl C X.env) fp) (.Name x px) (gName i)) (hs : ∀ x, foldedSetIterable iter X.env x = pure x)
    (h : DE F X iter ρ M fun s M' => ∃ ds, s = .d (.tup ds) ∧ ∃ I : Nat → List D → Mem → Prop, I 0 [] M' ∧ (∀ k d acc M1, ds[k]? = some d → I k acc M1 → M1.length = M'.length → LcTurn F X scope ifs elt ((ρ.set i none).set i (some (.d d))) M'.length acc M1 (fun acc' M4 => I (k + 1) acc' M4) (fun M4 => I (k + 1) acc M4)) ∧
      ∀ acc M1, I ds.length acc M1 → M1.length = M'.length → M1.all C.fd = true ∧ Q (.d (.lst acc)) M1) : DE F X (.ListComp elt [⟨.Name x px, iter, ifs, 0⟩] scope pos) ρ M Q := ⟨fun g σ H Z => of_pe (pe_lc (own := [(x, i)]) (g := gName i) (tt := ttA X scope ifs) (te := teA X scope elt) hc hN (pi_tup pe_s) ok hg
      (fun s H C cl fp => ⟨fun pins s1 σ H' Q I h => h s H C cl fp pins s1 I⟩) (fun s H C cl fp => ⟨fun pins s1 σ H' Q I h => h s H C cl fp pins s1 I⟩) hs) <|
  tS_mono (h.run g σ H Z) fun v H1 ⟨s, M', g', l, r, Z', ds, es, I, i0, turn, done⟩ => by
    subst es
    obtain ⟨a, xs, rfl, h1, h2⟩ := repTup r
    refine ⟨a, rfl, ⟨xs, le_t Z'.sub h1⟩, fun D0 hD => lc_tup (K := X.K) (a := a) (xs := xs) (LcPv X.K F g' D0 (ρ.set i none) (σ.set i none) M'.length I) (lc_start Z' hD i0) (fun k H2 _ ⟨acc, M1, G', l', _, Z1, _⟩ => le_t (l'.trans Z1.sub) h1) (fun k y H2 hk P => ?_) (fun H2 P => ?_)⟩
    · obtain ⟨d, hd, rd⟩ := h2.getV hk
      exact lc_step (v := y) rd Z'.ml P (fun acc M1 q hl => turn k d acc M1 hd q hl)
    · rw [h2.length] at P
      exact lc_end Z' l P done⟩
theorem de_lcR {i : Nat} {px p2 : Pos} {elt : Expr} {ifs : List Expr} {scope : Scope} (hc : X.calm = true) (hN : X.N.Nodup) (ok : BlkOk X.N X.env.scope scope [(x, i)]) (hgl : Gl X "range") (hm : X.mg "range" = none) (hst : starEach (e :: []) X.env = (false, eval e X.env) :: starEach [] X.env)
    (hg : ∀ (s : Shared) (H : Hp) (C : Addr) (cl : List (Str × Addr)) (fp : List Addr), PG (X.blk s H scope (compEnvC scope cl C X.env) fp) (.Name x px) (gName i)) (hs : ∀ x, foldedSetIterable (.Call (.Name "range" p) [e] [] p2) X.env x = pure x)
    (h : DE F X e ρ M fun s M' => ∃ n : Int, s = .d (.int n) ∧ -(2 ^ 62) ≤ n ∧ n < 2 ^ 62 ∧ ∃ I : Nat → List D → Mem → Prop, I 0 [] M' ∧ (∀ (k : Nat) acc M1, (k : Int) < n → I k acc M1 → M1.length = M'.length → LcTurn F X scope ifs elt ((ρ.set i none).set i (some (.d (.int k)))) M'.length acc M1 (fun acc' M4 => I (k + 1) acc' M4) (fun M4 => I (k + 1) acc M4)) ∧
      ∀ acc M1, I n.toNat acc M1 → M1.length = M'.length → M1.all C.fd = true ∧ Q (.d (.lst acc)) M1) : DE F X (.ListComp elt [⟨.Name x px, .Call (.Name "range" p) [e] [] p2, ifs, 0⟩] scope pos) ρ M Q := ⟨fun g σ H Z => of_pe (pe_lc (own := [(x, i)]) (g := gName i) (tt := ttA X scope ifs) (te := teA X scope elt) hc hN (pi_range1 hgl hm (pa_cons pe_s pa_nil hst) hst) ok hg
      (fun s H C cl fp => ⟨fun pins s1 σ H' Q I h => h s H C cl fp pins s1 I⟩) (fun s H C cl fp => ⟨fun pins s1 σ H' Q I h => h s H C cl fp pins s1 I⟩) hs) <|
  tS_mono (h.run g σ H Z) fun v H1 ⟨s, M', g', l, r, Z', n, es, n1, n2, I, i0, turn, done⟩ => by
    subst es
    rw [rep_int r]
    refine ⟨n, rfl, n1, n2, fun D0 hD => lc_range (lo := 0) (n := n.toNat) (LcPv X.K F g' D0 (ρ.set i none) (σ.set i none) M'.length I) (lc_start Z' hD i0) (fun k H2 hk P => ?_) (fun H2 P => ?_)⟩
    · have e0 : (0 : Int) + (k : Int) = (k : Int) := Int.zero_add _
      rw [e0]
      exact lc_step (v := .int k) (Rep.int k) Z'.ml P (fun acc M1 q hl => turn k acc M1 (by omega) q hl)
    · exact lc_end Z' l P done⟩
end
end DL
end

section
set_option Elab.async false
set_option linter.all false
set_option maxRecDepth 100000
set_option maxHeartbeats 2000000
namespace DL
open PySem PySem.Spec PyProof.Rows L2
/-! ### defs that are run where no repr is under way -/
/-- a def keeps its promise where no guard stands on the stack -/
structure FnG (P : Program) (w : World) (K : PySem.W.Frag) (mg : Str → Option Value) (base : Heap) (CX : CXT) (k : Nat) (f : Addr) (fd : FuncData) (ps : List Str) (sp : Sp) : Prop where
  len : ∀ vs H Q E, sp vs H Q E → vs.length = ps.length
  run : ∀ (A : Around) (out : List Env) (s : Shared) (H : Hp) (ar : Args) (us : List Value) (vs : List V) (Q : VK) (E : XK), Room k A → A.guards = some [] → Env0 P w K mg base A out s H → BindsTo s fd ar (ps.zip us) → Vals vs us → sp vs H Q E →
    codeAny (model P w) A (.call (.ref f) ar) (CR CX out P w H s Q E) s
section
variable {P : Program} {w : World} {K : PySem.W.Frag} {mg : Str → Option Value} {base : Heap}
theorem FnG.of {CX : CXT} {k : Nat} {f : Addr} {fd : FuncData} {ps : List Str} {sp : Sp} (F : FnOk P w K mg base CX k f fd ps sp) : FnG P w K mg base CX k f fd ps sp := ⟨F.len, fun A out s H ar us vs Q E hr _ => F.run A out s H ar us vs Q E hr⟩
theorem fnG_of {CX : CXT} {k : Nat} {f : Addr} {nm ql : Str} {pa : Arguments} {bo : List Stmt} {sc : Scope} {dV kV dc pm cdv ct oc : Value} {an od : Option Addr} {osl : Array (Option Value)} {N ps : List Str} {sp : Sp}
    (lk : K.lookup f = some ⟨oc, od, .func (PySem.W.fnOf nm ql pa bo sc dV kV dc pm an cdv ct), osl⟩) (hcd : PySem.W.codeIn K cdv ql = true) (SC : FnScope N ps sc) (hl0 : ∀ vs H Q E, sp vs H Q E → vs.length = ps.length)
    (hb0 : ∀ (A : Around) (out : List Env) (s : Shared) (H : Hp) (vs : List V) (Q : VK) (E : XK), Room k (A.deeper (envOfC ql sc s.heap.objs.size f cdv)) → A.guards = some [] → sp vs H Q E →
      ∃ t, PSs (cxOf CX P w K mg base N ql sc f cdv A out s H E) bo t ∧ t { nx := fun _ H1 => Q .non H1, rt := Q } (L2.start N vs) H) :
    FnG P w K mg base CX (k + 1) f (PySem.W.fnOf nm ql pa bo sc dV kV dc pm an cdv ct) ps sp := by
  refine ⟨hl0, fun A out s H ar us vs Q E hr hg e0 hbi rv hsp => ?_⟩
  have lv := hl0 _ _ _ _ hsp
  have kin : K.In s.heap := e0.mod.kin.keeps fun b o q => (e0.bs b o q).1
  have nol : s.heap.NoLimit := e0.mod.nolimit.keeps fun b o q => (e0.bs b o q).1
  have kinds : ∀ z ∈ ps.zip us, sc.names.lookup z.1 = some .local ∨ (sc.names.lookup z.1 = some .cell ∧ ((cellsFrom (s.heap.objs.size + 1) sc.names []).lookup z.1).isSome = true) := by
    rintro ⟨n, v⟩ hz
    rcases SC.par n (List.of_mem_zip hz).1 with c | c
    · exact .inl c
    · exact .inr ⟨c, PySem.W.cellsFrom_some _ _ _ (.inl c)⟩
  refine codeAny_call_function hr.depth (kin _ _ lk) rfl SC.co SC.gen rfl (PySem.W.codeRec_of kin hcd) (hbi _ _ _ _ ?_)
  refine wpAny_newFunctionEnv_cells SC.kind kinds fun en hen s2 xx => ?_
  subst hen
  refine ⟨nol.keeps xx.toInCall.keep, codeAny_func ?_⟩
  obtain ⟨t, ht, hq⟩ := hb0 A out s H vs Q E (hr.deeper _) hg hsp
  have IV : Inv (cxOf CX P w K mg base N ql sc f cdv A out s H E) [] (L2.start N vs) H s2 := inv_start SC hr.hd e0 lv rv xx
  refine wpAny_mono (ht.run [] s2 (L2.start N vs) H _ IV hq) (fun fw s3 hs => ?_) fun ee s3 hs => hs
  cases fw with
  | ret u =>
    obtain ⟨v, σ1, H1, J, ru, q⟩ := hs
    exact ⟨v, H1, J.os, J.bare, J.base, J.hok, ru, q⟩
  | next =>
    obtain ⟨σ1, H1, J, q⟩ := hs
    exact ⟨V.non, H1, J.os, J.bare, J.base, J.hok, rfl, q⟩
  | brk => exact (show False from let ⟨_, _, _, q⟩ := hs; q).elim
  | cont => exact (show False from let ⟨_, _, _, q⟩ := hs; q).elim
end
section
variable {X : Cx} {F : Fc} {ρ : Rho} {M : Mem} {Q : S → Mem → Prop} {e : Expr} {es : List Expr} {pos p : Pos} {x : Str}
theorem runG {k : Nat} {f : Addr} {fd : FuncData} {ps : List Str} {sp : Sp} {pins : List (Addr × Obj)} {σ : L2.St} {H : Hp} {s : Shared} {Q : VK} {us ds : List Value} {vs dvs : List V} (G : FnG X.prog X.w X.K X.mg X.base CX0 k f fd ps sp) (hr : Room k X.A) (hg : X.A.guards = some []) (hb : Binds X.K fd ps ds) (hd : Vals dvs ds)
    (I : Inv X pins σ H s) (r : Vals vs us) (h : sp (vs ++ dvs) H Q E0) : wpAny (model X.prog X.w) X.A (call (.ref f) us) (EP X pins σ Q) X.xe s := by
  have rr : Vals (vs ++ dvs) (us ++ ds) := r.append hd
  refine wpAny_call (codeAny_mono (G.run X.A X.stack s H ⟨us, []⟩ (us ++ ds) (vs ++ dvs) Q E0 hr hg I.env0 (hb s us I.kIn (rr.length.symm.trans (G.len _ _ _ _ h))) rr h) fun rs s1 hq => ?_)
  cases rs with
  | error er => exact (show False from hq).elim
  | ok fl =>
    cases fl with
    | ret u => exact I.after hq
    | _ => exact (show False from hq).elim
theorem pe_callG {k : Nat} {f : Addr} {fd : FuncData} {ps : List Str} {sp : Sp} {dvs : List V} {ds : List Value} {t : TA} (G : FnG X.prog X.w X.K X.mg X.base CX0 k f fd ps sp) (hr : Room k X.A) (hgu : X.A.guards = some []) (hg : Gl X x) (hm : X.mg x = some (.ref f)) (hk : PySem.W.keepIn X.K (.ref f) = true) (hb : Binds X.K fd ps ds) (hd : Vals dvs ds)
    (ha : PA X (e :: es) t) (hdb : (x == ("__debug__" : Str)) = false) (he : starEach (e :: es) X.env = (false, eval e X.env) :: starEach es X.env) (hpl : (backTo pos (starEach es X.env)).any (·.1) = false) : PE X (.Call (.Name x p) (e :: es) [] pos) (tCall sp dvs E0 t) := by
  refine ⟨fun pins s σ H Q I h => wpAny_Call_Name_kw (ld_glob I hg hm (PySem.W.callWith_K (h₀ := X.base) I.ok.mod.kin hk (thn (ha.run pos pins s σ H _ I h) fun us s1 ⟨vs, H1, I1, r, q⟩ => ⟨I1.kIn, ?_⟩) he hpl) hdb)⟩
  exact runG G hr hgu hb hd I1 r q
/-- a def that is called -/
structure Cal (P : Program) (w : World) (K : PySem.W.Frag) (mg : Str → Option Value) (base : Heap) (k : Nat) (x : Str) (ps : List Str) (sd : Sd) : Prop where
  ex : ∃ f fd, FnG P w K mg base CX0 k f fd ps (spOf K ps.length sd) ∧ mg x = some (.ref f) ∧ PySem.W.keepIn K (.ref f) = true ∧ Binds K fd ps []
theorem de_own {k j : Nat} {ps : List Str} {sd : Sd} (c : Cal X.prog X.w X.K X.mg X.base k x ps sd) (hr : Room j X.A) (hgu : X.A.guards = some []) (hkj : k ≤ j) (hg : Gl X x)
    (hdb : (x == ("__debug__" : Str)) = false) (he : starEach (e :: es) X.env = (false, eval e X.env) :: starEach es X.env) (hpl : (backTo pos (starEach es X.env)).any (·.1) = false)
    (h : DA F X (e :: es) ρ M fun ss M1 => SpD F X (spOf X.K ps.length sd) [] ss ρ M1 Q) : DE F X (.Call (.Name x p) (e :: es) [] pos) ρ M Q := by
  obtain ⟨f, fd, G, hm, hk, hb⟩ := c.ex
  exact ⟨fun g σ H Z => of_pe (pe_callG G (hr.mono hkj) hgu hg hm hk hb .nil pa_s hdb he hpl) <|
    tA_mono (h.run g σ H Z) fun vs H1 ⟨ss, M1, g1, l, r, Z1, q⟩ => q.run g g1 σ H1 vs l Z1 r⟩
end
section
variable {P : Program} {w : World} {K : PySem.W.Frag} {mg : Str → Option Value} {base : Heap}
/-- THE RULE for a def -/
theorem fn_ok {x qual : Str} {st : Stmt} {f : Addr} {fd : FuncData} {N ps : List Str} {k : Nat} {sd : Sd} (FF : Fun K x qual st f fd) (SS : FnScope N ps (defScope st))
    (hbody : ∀ (cdv : Value) (A : Around) (outer : List Env) (s : Shared) (H : Hp) (E : XK) (F : Fc) (ss : List S) (cs : List C) (Q : Rs → List C → Prop), Room k (A.deeper (envOfC qual (defScope st) s.heap.objs.size f cdv)) → (A.deeper (envOfC qual (defScope st) s.heap.objs.size f cdv)).guards = some [] → sd ss cs Q → ss.length = ps.length → F.θ0.length = cs.length →
      DB F (cxOf CX0 P w K mg base N qual (defScope st) f cdv A outer s H E).nox (defBody st) (startS N ss) cs { nx := fun _ M => RetS cs.length (.d .non) M Q, rt := fun t M => RetS cs.length t M Q }) :
    FnG P w K mg base CX0 (k + 1) f fd ps (spOf K ps.length sd) := by
  obtain ⟨oc, od, kV, dc, pm, an, cdv, ct, osl, rfl, lk, hcd⟩ := FF.ex
  refine fnG_of lk hcd SS (fun vs H Q E h => h.1) (fun A outer s H vs Q E hr hgu h => ?_)
  obtain ⟨hl, ss, cs, G, as, r, l, hc, nd, ga, Q0, hsd, hQ⟩ := h
  have Z : Sim K ⟨H, G, as⟩ ⟨G, as⟩ (startS N ss) cs (L2.start N vs) H := sim_start r l hc nd ga
  have B := hbody cdv A outer s H E ⟨H, G, as⟩ ss cs _ hr hgu hsd (by rw [← r.length, hl]) hc.1.symm
  refine ⟨_, (pb_s (X := (cxOf CX0 P w K mg base N qual (defScope st) f cdv A outer s H E).nox)).nox, sB_mono (B.run _ _ _ Z) ⟨fun σ' H' ⟨ρ', M', g', lg, Z', q⟩ => ?_, fun v H' ⟨t, ρ', M', σ', g', lg, rv, Z', q⟩ => ?_, fun _ _ ⟨_, _, _, _, _, q⟩ => q, fun _ _ ⟨_, _, _, _, _, q⟩ => q⟩⟩
  · obtain ⟨hf, q⟩ := q
    rw [hc.1] at hf q
    obtain ⟨A1, C1⟩ := sim_end Z' hf
    rcases q with ⟨y, ey, q⟩ | ⟨n, c, ey, _⟩
    · cases ey
      exact hQ _ _ q .non H' g'.G A1 C1 Rep.non
    · cases ey
  · obtain ⟨hf, q⟩ := q
    rw [hc.1] at hf q
    obtain ⟨A1, C1⟩ := sim_end Z' hf
    rcases q with ⟨y, ey, q⟩ | ⟨n, c, ey, hn, em, hcf, q⟩
    · subst ey
      exact hQ _ _ q v H' g'.G A1 C1 rv
    · subst ey
      obtain ⟨a, rfl, ea⟩ := rv
      obtain ⟨ll, el⟩ := Z'.pre
      have a0 : a ∉ as := fun h => by
        obtain ⟨j, hj, ej⟩ := List.getElem_of_mem h
        have el : g'.θ = as ++ ll := el
        have q : g'.θ[j]? = some a := by
          rw [el, List.getElem?_append_left hj, List.getElem?_eq_getElem hj, ej]
        have := nodup_get Z'.nd q ea
        omega
      exact hQ _ _ q (.ref a) H' g'.G A1 C1 ⟨a, rfl, (Z'.own a (List.mem_of_getElem? ea)).resolve_left a0, (Z'.go n c a em ea).resolve_left (flat_dead hcf), hcf, (Z'.ob n c a em ea).flat hcf⟩
end
end DL
end

section
set_option Elab.async false
set_option linter.all false
set_option maxRecDepth 100000
set_option maxHeartbeats 2000000
namespace DL
open PySem PySem.Spec PyProof.Rows L2
/-! ### the end: the law's own call -/
theorem lawG {P : Program} {w : World} {K : PySem.W.Frag} {mg mb : Str → Option Value} {k : Nat} {fa a : Addr} {fd : FuncData} {x : Str} {sp : Sp} {s1 : Shared} {us : List Value} {zs : List Int}
    (kin : K.In s1.heap) (nsG : s1.heap.Ns mainGlobals mg) (nsB : s1.heap.Ns builtinsNs mb) (blt : ∀ y : Str, y ≠ "__name__" → mb y = bootBuiltins y) (nol : s1.heap.NoLimit) (hgen : s1.gens = #[])
    (hobj : s1.heap.get? a = some { cls := .type "list", data := .seq us.toArray }) (hzs : IntsAre us zs) (hlen : zs.length ≤ sizeLine) (hroom : Room k callerA)
    (G : ∀ base : Heap, K.In base → base.Ns mainGlobals mg → FnG P w K mg base CX0 k fa fd [x] sp) (hbi : ∀ (s : Shared) (u : Value), BindsTo s fd ⟨[u], []⟩ [(x, u)])
    (hsp : ∀ H : Hp, Only H → SqL K H a (zs.map V.int) → sp [.ref a] H (fun v _ => v = .bl true) fun _ _ _ => False) :
    codeAny (model P w) callerA (.call (.ref fa) ⟨[.ref a], []⟩) (fun r s' => r = .ok (.ret (.bool true)) ∧ OldK s1.heap s'.heap ∧ s'.os = s1.os ∧ AllBare s'.gens) s1 := by
  have rz := vals_ints hzs
  have hl2 := hzs.length
  have main : ∀ H : Hp, Only H → SqL K H a (zs.map V.int) → HOk P w H s1.heap → (∀ b, H b ≠ none → b = a) → (H a ≠ none → K.lookup a = none) →
      codeAny (model P w) callerA (.call (.ref fa) ⟨[.ref a], []⟩) (fun r s' => r = .ok (.ret (.bool true)) ∧ OldK s1.heap s'.heap ∧ s'.os = s1.os ∧ AllBare s'.gens) s1 := by
    intro H only seq hok sole notK
    have seen : ∀ {b : Addr} {o : Obj}, s1.heap.get? b = some o → H b = none → (hidT s1.heap H).get? b = some o := fun h n => hidT_get h n
    have free : ∀ {b : Addr} {o : Obj} {es : Array DictEntry} {ep : Nat}, s1.heap.get? b = some o → o.data = .dict es ep → H b = none := by
      intro b o es ep h1 h2
      cases hb : H b with
      | none => rfl
      | some u =>
        have hba : b = a := sole b (by rw [hb]; simp)
        rw [hba, hobj] at h1
        cases h1
        cases (show Data.seq us.toArray _ = Data.dict es ep from h2)
    have nsOf : ∀ {b : Addr} {m : Str → Option Value}, s1.heap.Ns b m → (hidT s1.heap H).Ns b m := by
      rintro b m ⟨o, es, ep, h1, h2, h3⟩
      exact ⟨o, es, ep, seen h1 (free h1 h2), h2, h3⟩
    have kin' : K.In (hidT s1.heap H) := by
      intro b o h1
      refine seen (kin b o h1) ?_
      cases hb : H b with
      | none => rfl
      | some u =>
        have hba : b = a := sole b (by rw [hb]; simp)
        rw [hba, notK (by rw [← hba, hb]; simp)] at h1
        cases h1
    obtain ⟨mc, n1, n2⟩ := nol
    have modl : Mod K mg (hidT s1.heap H) := ⟨kin', nsOf nsG, ⟨mb, nsOf nsB, blt⟩, ⟨mc, nsOf n1, n2⟩⟩
    have env0 : Env0 P w K mg (hidT s1.heap H) callerA [] s1 H := ⟨rfl, modl, fun b o h => of_hidT h, Nat.le_of_eq (hidT_size _ _), trivial, (fun b h => absurd (show b ∈ ([] : List Addr) from h) List.not_mem_nil), hok, AllBare.of_eq hgen⟩
    refine codeAny_mono ((G _ kin' (nsOf nsG)).run callerA [] s1 H ⟨[.ref a], []⟩ [.ref a] [.ref a] _ _ hroom rfl env0 (hbi s1 (.ref a)) (.cons rfl .nil) (hsp H only seq)) fun r s2 hr => ?_
    cases r with
    | error er => exact (show False from hr).elim
    | ok fl =>
      cases fl with
      | ret u =>
        obtain ⟨v, H2, eos, bare, un, hok2, ru, hv⟩ := hr
        have hv : v = .bl true := hv
        subst hv
        have hu : u = Value.bool true := ru
        subst hu
        refine ⟨rfl, OldK.of_keep fun b o h1 => ?_, eos, bare⟩
        cases hb : H b with
        | none => exact un.keep b o h1 hb (fun z => absurd (show b ∈ ([] : List Addr) from z) List.not_mem_nil) (by simp)
        | some u =>
          rcases only b with z | ⟨ob, xs, z⟩
          · rw [hb] at z; cases z
          · have z2 := un.frzs b ob _ z
            have q1 := (hok b _ z).1
            have q2 := (hok2 b _ z2).1
            rw [h1] at q1
            cases q1
            exact q2
      | _ => exact (show False from hr).elim
  cases hK : K.lookup a with
  | some o =>
    have h1 := kin a o hK
    rw [hobj] at h1
    cases h1
    exact main (fun _ => none) (fun _ => .inl rfl) (.inr ⟨_, us.toArray, _, hK, rfl, rfl, rfl, by rw [List.size_toArray, hl2]; exact hlen, by simpa using rz⟩) (fun b u z => by cases (show (none : Option HO) = some u from z)) (fun b z => absurd rfl z) fun z => absurd rfl z
  | none =>
    refine main (fun b => if b = a then some (.frz { cls := .type "list", data := .seq us.toArray } (.lst (zs.map V.int))) else none) (fun b => ?_) (.inl (.inr ⟨{ cls := .type "list", data := .seq us.toArray }, if_pos rfl⟩)) (fun b u z => ?_) (fun b z => ?_) fun _ => hK
    · by_cases h : b = a
      · exact .inr ⟨_, _, if_pos h⟩
      · exact .inl (if_neg h)
    · by_cases h : b = a
      · have z2 := (if_pos h).symm.trans z
        cases z2
        subst h
        exact ⟨hobj, by rw [List.length_map]; exact hlen, us, _, rz, hobj⟩
      · cases (if_neg h).symm.trans z
    · by_cases h : b = a
      · exact h
      · exact absurd (if_neg h) z
/-- the goal that the head leaves -/
theorem walkG {l : PySem.W.OpenLaw} {n k : Nat} {q : Program} {loose : List Str} {XP : (Str → Option Value) → Heap → Prop} {YP : World → Heap → Prop} {d : DefRec} {K : Params → PySem.W.Frag} {sd : Sd} {x : Str}
    (hn : l.most = some n) (hn2 : n ≤ sizeLine) (hdf : d.params.defaults = []) (hr : Room k callerA)
    (hY : ∀ (w : World) (h : Heap), YP w h → (K w.params).In h)
    (F : ∀ (w : World) (mg : Str → Option Value) (fa : Addr) (h : Heap), (K w.params).In h → h.Ns mainGlobals mg → mg d.name = some (.ref fa) →
      ∃ fd : FuncData, (∀ (s : Shared) (u : Value), BindsTo s fd ⟨[u], []⟩ [(x, u)]) ∧ ∀ base : Heap, (K w.params).In base → base.Ns mainGlobals mg → FnG l.prog w (K w.params) mg base CX0 k fa fd [x] (spOf (K w.params) 1 sd))
    (hsd : ∀ zs : List Int, zs.length ≤ n → sd [.d (.lst (zs.map D.int))] [] fun r _ => r = .d (.bl true)) :
    PySem.W.WalkO q loose XP YP l.row.toRowW d [] (fun f vs => PySem.call f vs) := by
  refine Att.attach_call hn hdf fun w s0 s1 mg mb fa o pm cd doc a us zs G Y ho hd hcd hmg hobj hzs hlen hg => ?_
  have kin := hY w _ Y
  obtain ⟨fd, hb, hF⟩ := F w mg fa _ kin G.T.g hmg
  refine lawG kin G.T.g G.T.b G.T.builtins G.T.nolimit hg hobj hzs (Nat.le_trans hlen hn2) hr hF hb fun H only seq => ?_
  have rep : ∀ (zs : List Int), RepL (K w.params) H (zs.map V.int) (zs.map D.int) := fun zs => by
    induction zs with
    | nil => exact .nil
    | cons z r ih => exact .cons (Rep.int z) ih
  refine ⟨rfl, [.d (.lst (zs.map D.int))], [], H, [], .cons (d := .d _) (Rep.lst seq (rep zs)) .nil, Le.refl _, ⟨rfl, fun i c a e => by simp at e⟩, List.nodup_nil, fun a h => by simp at h, _, hsd zs hlen, fun r cs hq v H2 G2 _ _ rv => ?_⟩
  subst hq
  exact rep_bl rv
end DL
end

section
set_option Elab.async false
set_option linter.all false
set_option maxRecDepth 100000
set_option maxHeartbeats 2000000
namespace DL
open PySem PySem.Spec PyProof.Rows L2
/-! ### enumerate(tuple) -/
def IteT (K : PySem.W.Frag) (a : Addr) : It where
  go := fun i H => ∃ (xs : List V) (y : V), SqT K H a xs ∧ xs[i]? = some y
  yld := fun i H v H2 => ∃ T y, v = .ref T ∧ H T = none ∧ H2 = upd H T (.tup [.int (i : Nat), y]) ∧ ∀ xs, SqT K H a xs → xs[i]? = some y
  stop := fun i H => ∃ xs : List V, SqT K H a xs ∧ xs.length = i
theorem obj_ne {h : Heap} {a b : Addr} {o u : Obj} (e1 : h.get? a = some o) (e2 : h.get? b = some u) (d : o.cls ≠ u.cls) : a ≠ b := by
  rintro rfl
  rw [e1] at e2
  cases e2
  exact d rfl
theorem turnedMany {X : Cx} {pins : List (Addr × Obj)} {σ : L2.St} {H : Hp} {s : Shared} {h2 : Heap} {t2 : Nat} {ch : List Addr} (I : Inv X pins σ H s) (k : ∀ b o, b ∉ ch → s.heap.get? b = some o → h2.get? b = some o) (hf : ∀ b ∈ ch, FpOk X pins H b) : Inv X pins σ H { s with heap := h2, toks := t2 } := by
  have out : ∀ b u, H b = some u → b ∉ ch := fun b u q z => by
    rw [(hf b z).1] at q
    cases q
  refine I.step (g' := s.gens) (d' := s.drawn) (ch := ch) (fun b z => ?_) (fun b o _ _ c q _ => k b o c q) (fun b o _ _ c q _ => ⟨o.slots, k b o c q⟩) (fun _ _ _ _ z => z) (fun b o c q => ⟨o, k b o c q⟩) (fun _ _ q => q) (fun _ _ _ q => q) (fun b ps q => ⟨#[], by simpa using q⟩) (fun m hm => ?_) (fun b u q => ?_) I.bare
  · obtain ⟨z0, z1, z2, z3, z4, z5⟩ := hf b z
    exact ⟨z3, z1, z4, z5⟩
  · obtain ⟨o, es, ep, ho, r⟩ := hm
    exact ⟨o, es, ep, k _ o (fun z => (hf _ z).2.1 rfl) ho, r⟩
  · refine (I.hok b u q).stay (fun c v hc z => k c v ?_ z) (fun _ z => z) fun _ _ z => z
    rcases hc with hc | hc
    · rw [hc]; exact out b u q
    · exact out c _ hc
theorem turn_enumT {P : Program} {w : World} {K : PySem.W.Frag} {elts : List Expr} {kk : Nat} {tpos : Pos} (a e it : Addr) :
    Turn P w K (.Tuple elts kk tpos) (IteT K a) [e, it] e (fun i h => (∃ old, IsEnum h e it ((i : Nat) : Int) old) ∧ h.IsTupleIter it a i) where
  mem := List.mem_cons_self
  obj := by
    rintro i h ⟨⟨old, he⟩, ⟨o, ho, hc, hd⟩⟩ b hb
    rcases (by simpa using hb : b = e ∨ b = it) with rfl | rfl
    · exact ⟨_, he, fun v q => nomatch q⟩
    · exact ⟨o, ho, fun v q => by rw [hd] at q; cases q⟩
  keep := by
    rintro i h h2 ⟨⟨old, he⟩, hi⟩ k
    exact ⟨⟨old, k e (by simp) _ he⟩, hi.at fun o q => k it (by simp) o q⟩
  item := by
    rintro X rfl rfl rfl hc i pins s σ H E I hf ⟨⟨old, he⟩, hit⟩ ⟨xs, y, hq, hy⟩
    obtain ⟨its, rv, pl, hz⟩ := I.tuple hq
    obtain ⟨u, hu, ru⟩ := rv.get hy
    obtain ⟨oa, ho, hcl, nn, hda⟩ := id pl
    obtain ⟨oi, hoi, hci, hdi⟩ := id hit
    have n1 : a ≠ it := obj_ne ho hoi (by rw [hcl, hci]; decide)
    have n2 : e ≠ it := obj_ne he hoi (by rw [hci]; show (Value.type "enumerate") ≠ _; decide)
    have n3 : e ≠ a := obj_ne he ho (by rw [hcl]; show (Value.type "enumerate") ≠ _; decide)
    have hh : X.A.in1.handled = none := I.ok.hd hc
    have W := GoesN.enumFrom (prog := X.prog) (w := X.w) (A := X.A) (elts := elts) (x1 := kk) (pos := tpos) 0 (Draws.tuple hh it a n1 its.toArray) e n2 (by simp [n2, n3]) (by simp)
    have e0 : (0 : Int) + ((i : Nat) : Int) = (i : Nat) := Int.zero_add _
    have hlen : i < its.toArray.size := by
      have := (List.getElem?_eq_some_iff.mp hu).1
      simpa using this
    refine thn (W.goes i s (fun v s2 => ∃ x H2, Inv X pins σ H2 s2 ∧ RelV x v ∧ (IteT X.K a).yld i H x H2 ∧ ((∃ old, IsEnum s2.heap e it (((i + 1 : Nat)) : Int) old) ∧ s2.heap.IsTupleIter it a (i + 1)) ∧ ∀ b ∈ [e, it], H2 b = none) E hlen ⟨⟨old, by rw [e0]; exact he⟩, hit, pl⟩ fun v h2 tk hY st2 hk htk => ?_) fun r s1 q => q
    obtain ⟨T, t, x, rfl, hT, hx, hTup⟩ := hY
    obtain ⟨⟨old2, he2⟩, hit2, _⟩ := st2
    have hx : its[i]? = some x := by simpa using hx
    rw [hu] at hx
    cases hx
    obtain ⟨ot, hot, hct, nt, hdt⟩ := hTup
    have new : ObjOk X.prog X.w (upd H T (.tup [.int (i : Nat), y])) h2 T (.tup [.int (i : Nat), y]) :=
      ⟨by show 2 ≤ sizeLine; decide, [.int (0 + (i : Int)) t, u], .cons ⟨t, by rw [e0]⟩ (.cons ru .nil), ⟨ot, hot, hct, nt, hdt⟩⟩
    have I2 : Inv X pins σ (upd H T (.tup [.int (i : Nat), y])) { s with heap := h2, toks := tk } :=
      I.turnedNew (ch := [e, it]) (fun b ob hb q => hk b ob hb q) hf hT new
    have hel : e < s.heap.objs.size := Heap.lt_size he
    have hil : it < s.heap.objs.size := Heap.lt_size hoi
    have e1 : (0 : Int) + ((i + 1 : Nat) : Int) = ((i + 1 : Nat) : Int) := Int.zero_add _
    refine ⟨.ref T, _, I2, rfl, ⟨T, y, rfl, I.hok.fresh hT, rfl, fun ys h => by rw [I.tuple_inj h hq]; exact hy⟩, ⟨⟨old2, by rw [← e1]; exact he2⟩, hit2⟩, fun b hb => ?_⟩
    have hbT : b ≠ T := by
      rcases (by simpa using hb : b = e ∨ b = it) with rfl | rfl
      · exact Nat.ne_of_lt (Nat.lt_of_lt_of_le hel hT)
      · exact Nat.ne_of_lt (Nat.lt_of_lt_of_le hil hT)
    rw [upd_ne hbT]
    exact (hf b hb).1
  done := by
    rintro X rfl rfl rfl hc i pins s σ H E I hf ⟨⟨old, he⟩, hit⟩ ⟨xs, hq, hx⟩
    obtain ⟨its, rv, pl, hz⟩ := I.tuple hq
    obtain ⟨oa, ho, hcl, nn, hda⟩ := id pl
    obtain ⟨oi, hoi, hci, hdi⟩ := id hit
    have n1 : a ≠ it := obj_ne ho hoi (by rw [hcl, hci]; decide)
    have n2 : e ≠ it := obj_ne he hoi (by rw [hci]; show (Value.type "enumerate") ≠ _; decide)
    have n3 : e ≠ a := obj_ne he ho (by rw [hcl]; show (Value.type "enumerate") ≠ _; decide)
    have hh : X.A.in1.handled = none := I.ok.hd hc
    have W := GoesN.enumFrom (prog := X.prog) (w := X.w) (A := X.A) (elts := elts) (x1 := kk) (pos := tpos) 0 (Draws.tuple hh it a n1 its.toArray) e n2 (by simp [n2, n3]) (by simp)
    have en : its.toArray.size = i := by rw [← hx, rv.length]; simp
    have e0 : (0 : Int) + ((i : Nat) : Int) = (i : Nat) := Int.zero_add _
    refine W.stops s (fun s1 => Inv X pins σ H s1) E ⟨⟨old, by rw [en, e0]; exact he⟩, by rw [en]; exact hit, pl⟩ fun h2 tk hk _ => ?_
    exact turnedMany I (fun b o hb q => hk b o hb q) hf
  self := by
    rintro A i s Q E ⟨⟨old, he⟩, _⟩ h
    exact wpAny_pyIter_enum he h
abbrev enO (a : Addr) : Obj := { cls := .type "tuple_iterator", data := .fields #[.ref a, .int 0 0] }
abbrev enE (n : Nat) : Obj := { cls := .type "enumerate", data := .fields #[.none, .bool false, .ref n, rawInt 0, .none, .none] }
theorem madeEnumT (a : Addr) (its : Array Value) : Meets (Builtin.«enumerate.__new__» ⟨[.type "enumerate", .ref a], []⟩) (fun _ R s => s.heap.IsTuple a its ∧ R (.ok (.ret (.ref (s.heap.push (enO a)).objs.size))) { s with heap := (s.heap.push (enO a)).push (enE s.heap.objs.size) }) :=
  .of_wp fun prog w A R s h => by
    obtain ⟨hp, gg, dd, tk, os⟩ := s
    obtain ⟨ht, h⟩ := h
    have B := begins_tuple a its
    have kids := sub_enumerate
    have it1 {A2 : Around} {E2 R2 : Value → Shared → Prop} (z : R2 (.ref hp.objs.size) ⟨hp.push (enO a), gg, dd, tk, os⟩) : wpAny (model prog w) A2 (pyIter (.ref a)) R2 E2 ⟨hp, gg, dd, tk, os⟩ := B.iter prog w _ _ ⟨hp, gg, dd, tk, os⟩ _ ht z
    wp_walk using it1
    refine wpAny_stack_any fun st => wpAny_pure ?_
    split
    case h_2 => wp_walk using it1; exact ⟨_, rfl, h⟩
    rename_i c _ _ _ _ _
    cases (c == Value.type "enumerate") <;> (wp_walk using it1; exact ⟨_, rfl, h⟩)
theorem call_enumT {prog : Program} {w : World} {A : Around} {E R : Value → Shared → Prop} {s : Shared} {a : Addr} {its : Array Value} (ht : s.heap.IsTuple a its)
    (h : ∀ h2, (∃ old, IsEnum h2 (s.heap.objs.size + 1) s.heap.objs.size 0 old) → h2.IsTupleIter s.heap.objs.size a 0 → (∀ b o, s.heap.get? b = some o → h2.get? b = some o) → R (.ref (s.heap.objs.size + 1)) { s with heap := h2 }) :
    wpAny (model prog w) A (call (.type "enumerate") [.ref a]) R E s := by
  refine callType_new F.called_enumerate (by decide) (F.typeCall_enumerate_1 _) (F.newCall_enumerate_1 _) (fun b => F.args_object_init_2 b _) F.entry_enumerate_new (madeEnumT a its) ⟨ht, ?_⟩
  have hz : (s.heap.push (enO a)).objs.size = s.heap.objs.size + 1 := Heap.size_push ..
  have he := Heap.get?_push_size (s.heap.push (enO a)) (o := enE s.heap.objs.size) rfl
  rw [hz] at he
  show _ ∧ _
  rw [hz]
  exact ⟨⟨_, he, rfl⟩, h _ ⟨.none, he⟩ ⟨_, Heap.get?_push_of_some _ (Heap.get?_push_size _ rfl), rfl, rfl⟩ fun b o x => Heap.get?_push_of_some _ (Heap.get?_push_of_some _ x)⟩
def iEnumT (K : PySem.W.Frag) (ta : TA) : TI := fun σ H R => ta σ H fun vs H1 => ∃ a xs, vs = [.ref a] ∧ SqT K H1 a xs ∧ R (IteT K a) H1
theorem pi_enumT {X : Cx} {e : Expr} {ta : TA} {p pos tpos : Pos} {elts : List Expr} {kk : Nat} (hg : Gl X "enumerate") (hm : X.mg "enumerate" = none) (ha : PA X [e] ta) (hs : starEach [e] X.env = [(false, eval e X.env)]) :
    PI X (.Tuple elts kk tpos) (.Call (.Name "enumerate" p) [e] [] pos) (iEnumT X.K ta) := by
  refine ⟨fun pins s σ H R I h => Call_ (ld_blt I hg hm boot_enumerate (PyProof.Rows.callWith_type1 (thn (ha.run pos pins s σ H _ I h) fun us s1 ⟨vs, H1, I1, r1, q1⟩ => ?_) hs rfl))⟩
  obtain ⟨a, xs, rfl, hq, q⟩ := q1
  obtain ⟨u, rfl, ru⟩ := vals1 r1
  cases (show u = Value.ref a from ru)
  obtain ⟨its, rv, pl, hz⟩ := I1.tuple hq
  refine call_enumT pl fun h2 ⟨old, he⟩ hit hk => wpAny_pyIter_enum he ?_
  have I2 : Inv X pins σ H1 { s1 with heap := h2 } := I1.kept (t' := s1.toks) hk
  refine ⟨s1.heap.objs.size + 1, [s1.heap.objs.size + 1, s1.heap.objs.size], _, _, H1, rfl, I2, turn_enumT a (s1.heap.objs.size + 1) s1.heap.objs.size, ⟨⟨_, he⟩, hit⟩, fun b hb => ?_, q⟩
  have hle : s1.heap.objs.size ≤ b := by
    rcases (by simpa using hb : b = s1.heap.objs.size + 1 ∨ b = s1.heap.objs.size) with rfl | rfl
    · exact Nat.le_add_right _ _
    · exact Nat.le_refl _
  exact I1.fpOk hle (I1.hok.fresh hle)
theorem for_enumT {K : PySem.W.Frag} {a : Addr} {xs : List V} {gg : TG} {tb : TS} {D : Ends} {σ : L2.St} {H : Hp} (Pv : Nat → L2.St → Hp → Prop) (h0 : Pv 0 σ H) (hl : ∀ i σ H, i ≤ xs.length → Pv i σ H → SqT K H a xs)
    (hs : ∀ i y T σ H, xs[i]? = some y → H T = none → Pv i σ H → gg (.ref T) σ (upd H T (.tup [.int (i : Nat), y])) fun σ2 H2 => tb { D with nx := Pv (i + 1), ct := Pv (i + 1), bk := D.nx } σ2 H2) (hd : ∀ σ H, Pv xs.length σ H → D.nx σ H) :
    ∃ W : Nat → Nat → L2.St → Hp → Prop, (∃ m, W 0 m σ H) ∧ ∀ i m σ H, W i m σ H →
      ((IteT K a).stop i H ∧ D.nx σ H) ∨ ((IteT K a).go i H ∧ ∃ N : L2.St → Hp → Prop, (∀ σ' H', N σ' H' → ∃ m', m' < m ∧ W (i + 1) m' σ' H') ∧ ∀ x H', (IteT K a).yld i H x H' → gg x σ H' fun σ2 H2 => tb { D with nx := N, ct := N, bk := D.nx } σ2 H2) := by
  refine ⟨fun i m σ H => m = xs.length - i ∧ i ≤ xs.length ∧ Pv i σ H, ⟨xs.length, rfl, Nat.zero_le _, h0⟩, ?_⟩
  rintro i m σ H ⟨rfl, hi, p⟩
  have q := hl i σ H hi p
  rcases Nat.lt_or_ge i xs.length with hlt | hge
  · right
    refine ⟨⟨xs, xs[i], q, List.getElem?_eq_getElem hlt⟩, Pv (i + 1), fun σ' H' p' => ⟨xs.length - (i + 1), by omega, rfl, hlt, p'⟩, ?_⟩
    rintro x H' ⟨T, y, rfl, hT, rfl, k⟩
    exact hs i y T σ H (k xs q) hT p
  · left
    have e : i = xs.length := by omega
    subst e
    exact ⟨⟨xs, q, rfl⟩, hd σ H p⟩
section
variable {X : Cx} {F : Fc} {ρ : Rho} {M : Mem} {N : DEnds} {e : Expr} {pos p : Pos}
/-- for i, x in enumerate(t), t a tuple -/
theorem ds_forEnumT {elts : List Expr} {kk : Nat} {tpos p2 : Pos} {body : List Stmt} (hp : PassesOwn (model X.prog X.w) X.A X.env X.xe) (hc : X.calm = true) (hg : Gl X "enumerate") (hm : X.mg "enumerate" = none)
    (hst : starEach (e :: []) X.env = (false, eval e X.env) :: starEach [] X.env) (hs : ∀ x, foldedSetIterable (.Call (.Name "enumerate" p) [e] [] p2) X.env x = pure x)
    (h : DE F X e ρ M fun s M' => ∃ ds, s = .d (.tup ds) ∧ ∃ I : Nat → Rho → Mem → Prop, I 0 ρ M' ∧ (∀ (i : Nat) d ρ' M'', ds[i]? = some d → I i ρ' M'' → DG F X (.Tuple elts kk tpos) (.d (.tup [.int (i : Nat), d])) ρ' M'' fun ρ2 M2 => DB F X body ρ2 M2 (turnEnds N (I (i + 1)))) ∧ ∀ ρ' M'', I ds.length ρ' M'' → N.nx ρ' M'') :
    DS F X (.For (.Tuple elts kk tpos) (.Call (.Name "enumerate" p) [e] [] p2) body [] pos) ρ M N := ⟨fun g σ H Z => of_ps (ps_for hp hc (pi_enumT hg hm (pa_cons pe_s pa_nil hst) hst) pg_s pb_s hs) <|
  tS_mono (h.run g σ H Z) fun v H1 ⟨s, M', g', l, r, Z', ds, es, I, i0, turn, done⟩ => by
    subst es
    obtain ⟨a, xs, rfl, h1, h2⟩ := repTup r
    refine ⟨a, xs, rfl, le_t Z'.sub h1, for_enumT (K := X.K) (a := a) (xs := xs) (PvOf X.K F g' I) ⟨ρ, M', g', Gle.refl g', Z', i0⟩ (fun i σ2 H2 _ ⟨ρ2, M2, g2, l2, Z2, _⟩ => le_t (l2.G.trans Z2.sub) h1) ?_ ?_⟩
    · rintro i y T σ2 H2 hi hT ⟨ρ2, M2, g2, l2, Z2, i2⟩
      obtain ⟨d, hd, rd⟩ := h2.getV hi
      obtain ⟨Z3, l3⟩ := Z2.allocD (p := T) (o := .tup [.int (i : Nat), y]) hT
      have rT : RepS X.K ⟨upd g2.G T (.tup [.int (i : Nat), y]), g2.θ⟩ (.ref T) (.d (.tup [.int (i : Nat), d])) := Rep.tup (.inl (.inl upd_same)) (.cons (.int _) (.cons ((rd.mono l2.G).mono l3.G) .nil))
      exact gS_mono ((turn i d ρ2 M2 hd i2).run _ σ2 _ _ Z3 rT) fun σ3 H3 ⟨ρ3, M3, g3, l4, Z4, b3⟩ => sB_mono (b3.run g3 σ3 H3 Z4) (by
        have L := (l2.trans l3).trans l4
        have L' := l.trans L
        exact ⟨fun _ _ ⟨ρ, M, g2, k, r⟩ => ⟨ρ, M, g2, L.trans k, r⟩, fun _ _ ⟨d, ρ, M, σ, g2, k, r⟩ => ⟨d, ρ, M, σ, g2, L'.trans k, r⟩, fun _ _ ⟨ρ, M, g2, k, r⟩ => ⟨ρ, M, g2, L'.trans k, r⟩, fun _ _ ⟨ρ, M, g2, k, r⟩ => ⟨ρ, M, g2, L.trans k, r⟩⟩)
    · rintro σ2 H2 ⟨ρ2, M2, g2, l2, Z2, i2⟩
      rw [h2.length] at i2
      exact ⟨ρ2, M2, g2, l.trans l2, Z2, done _ _ i2⟩⟩
end
end DL
end

section
set_option Elab.async false
set_option linter.all false
set_option maxRecDepth 100000
set_option maxHeartbeats 2000000
namespace DL
open PySem PySem.Spec PyProof.Rows L2
/-! ### dicts with tuples as keys -/
def kD : Key → D
  | .inl i => .int i
  | .inr x => .str x
def kS (k : Key) : S := .d (kD k)
theorem rep_kD {K : PySem.W.Frag} {G : Hp} : ∀ k : Key, Rep K G (kV k) (kD k)
  | .inl i => .int i
  | .inr x => .str x
theorem repL_kD {K : PySem.W.Frag} {G : Hp} : ∀ ks : List Key, RepL K G (ks.map kV) (ks.map kD)
  | [] => .nil
  | k :: ks => .cons (rep_kD k) (repL_kD ks)
theorem of_kD {K : PySem.W.Frag} {g : Gh} {v : V} : ∀ {k : Key}, RepS K g v (kS k) → v = kV k
  | .inl i, r => rep_int r
  | .inr x, r => rep_str r
theorem of_kDs {K : PySem.W.Frag} {g : Gh} : ∀ {ks : List Key} {vs : List V}, RepSs K g vs (ks.map kS) → vs = ks.map kV
  | [], _, .nil => rfl
  | k :: ks, _, .cons h r => by rw [of_kD h, of_kDs r]; rfl
abbrev TabS := List (List Key × S)
def tabS (ds : List (List Key × D)) : TabS := ds.map fun p => (p.1, .d p.2)
def getT (t : TabS) (k : List Key) : Option S := (t.find? fun p => decide (p.1 = k)).map (·.2)
def putT (t : TabS) (k : List Key) (x : S) : TabS := if (t.any fun p => decide (p.1 = k)) = true then t.map (fun p => if p.1 = k then (p.1, x) else p) else t ++ [(k, x)]
def viewT (M : Mem) : S → Option TabS
  | .d (.dT ds) => some (tabS ds)
  | .p n => match M[n]? with
    | some (.dT t) => some t
    | _ => none
  | _ => none
theorem repT_tab {K : PySem.W.Frag} {g : Gh} : ∀ {vs : List (List Key × V)} {ds : List (List Key × D)}, RepT K g.G vs ds → RepSt K g vs (tabS ds)
  | _, _, .nil => .nil
  | _, _, .cons h r => .cons h (repT_tab r)
theorem tab_repT {K : PySem.W.Frag} {g : Gh} : ∀ {vs : List (List Key × V)} {ds : List (List Key × D)}, RepSt K g vs (tabS ds) → RepT K g.G vs ds
  | _, [], .nil => .nil
  | _, (_, _) :: _, .cons h r => .cons h (tab_repT r)
theorem RepSt.len {K : PySem.W.Frag} {g : Gh} : ∀ {vs : List (List Key × V)} {t : TabS}, RepSt K g vs t → vs.length = t.length
  | _, _, .nil => rfl
  | _, _, .cons _ r => by simp [RepSt.len r]
theorem RepSt.val {K : PySem.W.Frag} {g : Gh} (k : List Key) : ∀ {vs : List (List Key × V)} {t : TabS}, RepSt K g vs t → (valV vs k = none ∧ getT t k = none) ∨ ∃ v s, valV vs k = some v ∧ getT t k = some s ∧ RepS K g v s
  | _, _, .nil => .inl ⟨rfl, rfl⟩
  | (f, v) :: vs, (_, s) :: t, .cons h r => by
    by_cases e : f = k
    · exact .inr ⟨v, s, valV_pos e, by simp [getT, List.find?_cons, e], h⟩
    · have e1 : valV ((f, v) :: vs) k = valV vs k := valV_neg e
      have e2 : getT ((f, s) :: t) k = getT t k := by simp [getT, List.find?_cons, e]
      rw [e1, e2]
      exact r.val k
theorem RepSt.anyK {K : PySem.W.Frag} {g : Gh} (k : List Key) : ∀ {vs : List (List Key × V)} {t : TabS}, RepSt K g vs t → (vs.any fun p => decide (p.1 = k)) = t.any fun p => decide (p.1 = k)
  | _, _, .nil => rfl
  | _, _, .cons _ r => by rw [List.any_cons, List.any_cons, r.anyK k]
theorem RepSt.rep1 {K : PySem.W.Frag} {g : Gh} {k : List Key} {v : V} {s : S} (h : RepS K g v s) : ∀ {vs : List (List Key × V)} {t : TabS}, RepSt K g vs t → RepSt K g (vs.map fun p => if p.1 = k then (p.1, v) else p) (t.map fun p => if p.1 = k then (p.1, s) else p)
  | _, _, .nil => .nil
  | (f, u) :: vs, (_, w) :: t, .cons h0 r => by
    rw [List.map_cons, List.map_cons]
    by_cases e : f = k
    · rw [if_pos e, if_pos e]; exact .cons h (r.rep1 h)
    · rw [if_neg e, if_neg e]; exact .cons h0 (r.rep1 h)
theorem RepSt.snoc {K : PySem.W.Frag} {g : Gh} {k : List Key} {v : V} {s : S} (h : RepS K g v s) : ∀ {vs : List (List Key × V)} {t : TabS}, RepSt K g vs t → RepSt K g (vs ++ [(k, v)]) (t ++ [(k, s)])
  | _, _, .nil => .cons h .nil
  | _, _, .cons h0 r => .cons h0 (r.snoc h)
theorem RepSt.put {K : PySem.W.Frag} {g : Gh} {k : List Key} {v : V} {s : S} {vs : List (List Key × V)} {t : TabS} (h : RepS K g v s) (r : RepSt K g vs t) : RepSt K g (putK vs k v) (putT t k s) := by
  unfold putK putT
  rw [r.anyK k]
  by_cases e : (t.any fun p => decide (p.1 = k)) = true
  · rw [if_pos e, if_pos e]; exact r.rep1 h
  · rw [if_neg e, if_neg e]; exact r.snoc h
section
variable {X : Cx} {F : Fc} {ρ : Rho} {M : Mem} {Q : S → Mem → Prop} {QT : Bool → Mem → Prop} {N : DEnds} {a b c e o value : Expr} {es : List Expr} {st : Stmt} {rest : List Stmt} {pos apos p tp : Pos} {x : Str} {kk : Nat}
theorem Sim.tab {K : PySem.W.Frag} {g : Gh} {σ : L2.St} {H : Hp} (Z : Sim K F g ρ M σ H) {v : V} {s : S} {t : TabS} (r : RepS K g v s) (h : viewT M s = some t) : ∃ a vs, v = .ref a ∧ Rd H a (.dT vs) ∧ RepSt K g vs t := by
  cases s with
  | d x =>
    cases x with
    | dT ds =>
      cases h
      have r : Rep K g.G v (.dT ds) := r
      cases r with
      | dT h1 h2 => exact ⟨_, _, rfl, .inr ⟨_, Z.sub _ _ h1⟩, repT_tab h2⟩
    | _ => cases h
  | p n =>
    obtain ⟨a, rfl, ea⟩ := r
    cases e : M[n]? with
    | none => simp [viewT, e] at h
    | some c =>
      cases c with
      | dT t' =>
        simp [viewT, e] at h
        subst h
        obtain ⟨vs, h1, h2⟩ := Z.ob n _ a e ea
        exact ⟨a, vs, rfl, .inl h1, h2⟩
      | _ => simp [viewT, e] at h
/-- {} -/
theorem de_dnew (q : Q (.p M.length) (M ++ [.dT []])) : DE F X (.Dict [] [] pos) ρ M Q := ⟨fun g σ H Z => of_pe pe_dnewT fun p hp => by
  obtain ⟨Z', L⟩ := Z.allocP (o := .dT []) (c := .dT []) hp ⟨[], upd_same, .nil⟩
  refine ⟨.p M.length, _, _, L, ⟨p, rfl, ?_⟩, Z', q⟩
  show (g.θ ++ [p])[M.length]? = some p
  rw [Z.ml, List.getElem?_append_right (Nat.le_refl _)]
  simp⟩
/-- what is asked of a displayed key -/
def KeyOk (ss : List S) (ks : List Key) : Prop := ss = ks.map kS ∧ ks.length ≤ sizeLine
theorem key_len {K : PySem.W.Frag} {g : Gh} {vs : List V} {ss : List S} {ks : List Key} (k : KeyOk ss ks) (r : RepSs K g vs ss) : vs.length ≤ sizeLine := by
  obtain ⟨rfl, hl⟩ := k
  rw [of_kDs r]; simpa using hl
theorem key_new {K : PySem.W.Frag} {g1 : Gh} {σ : L2.St} {H : Hp} {vs : List V} {ss : List S} {ks : List Key} {p : Addr} (Z : Sim K F g1 ρ M σ H) (k : KeyOk ss ks) (r : RepSs K g1 vs ss) (hp : H p = none) : vs.length ≤ sizeLine ∧ vs = ks.map kV ∧ Sim K F ⟨upd g1.G p (.tup (ks.map kV)), g1.θ⟩ ρ M σ (upd H p (.tup (ks.map kV))) ∧ Gle g1 ⟨upd g1.G p (.tup (ks.map kV)), g1.θ⟩ := by
  obtain ⟨rfl, hl⟩ := k
  have e := of_kDs r
  subst e
  obtain ⟨Z', L⟩ := Z.allocD (o := .tup (ks.map kV)) hp
  exact ⟨by simpa using hl, rfl, Z', L⟩
/-- (a, b) in d -/
theorem de_din (hu : X.A.units + 1 < cLine) (h : DA F X es ρ M fun ss M1 => ∃ ks, KeyOk ss ks ∧ DE F X o ρ M1 fun s M2 => ∃ t, viewT M2 s = some t ∧ Q (.d (.bl (getT t ks).isSome)) M2) (hm : behindInMarks .In o = false) : DE F X (.Compare (.Tuple es kk tp) [.In] [o] pos) ρ M Q := ⟨fun g σ H Z => of_pe (pe_cmp (pc_din hu (pe_tup pa_s) pe_s) hm) <|
  tA_mono (h.run g σ H Z) fun vs H1 ⟨ss, M1, g1, l1, r1, Z1, ks, hk, q1⟩ => ⟨key_len hk r1, fun p hp => by
    obtain ⟨_, e, Z2, l2⟩ := key_new Z1 hk r1 hp
    subst e
    refine tS_mono (q1.run _ σ _ Z2) fun v H3 ⟨s, M3, g3, l3, r3, Z3, t, ht, q⟩ => ?_
    obtain ⟨a, xs, rfl, hd, rt⟩ := Z3.tab r3 ht
    have hkey : H3 p = some (.tup (ks.map kV)) := Z3.sub _ _ (l3.G _ _ upd_same)
    have eq : (valV xs ks).isSome = (getT t ks).isSome := by
      rcases rt.val ks with ⟨e1, e2⟩ | ⟨_, _, e1, e2, _⟩ <;> rw [e1, e2] <;> rfl
    exact ⟨a, valV xs ks, rfl, .inr ⟨xs, ks, p, hd, rfl, hkey, rfl⟩, .d (.bl (getT t ks).isSome), M3, g3, (l1.trans l2).trans l3, by rw [eq]; exact rsB, Z3, q⟩⟩⟩
theorem dt_din (hu : X.A.units + 1 < cLine) (h : DA F X es ρ M fun ss M1 => ∃ ks, KeyOk ss ks ∧ DE F X o ρ M1 fun s M2 => ∃ t, viewT M2 s = some t ∧ QT (getT t ks).isSome M2) (hm : behindInMarks .In o = false) : DT F X (.Compare (.Tuple es kk tp) [.In] [o] pos) ρ M QT := ⟨fun g σ H Z => of_pt (pt_cmp (pc_din hu (pe_tup pa_s) pe_s) hm) <|
  tA_mono (h.run g σ H Z) fun vs H1 ⟨ss, M1, g1, l1, r1, Z1, ks, hk, q1⟩ => ⟨key_len hk r1, fun p hp => by
    obtain ⟨_, e, Z2, l2⟩ := key_new Z1 hk r1 hp
    subst e
    refine tS_mono (q1.run _ σ _ Z2) fun v H3 ⟨s, M3, g3, l3, r3, Z3, t, ht, q⟩ => ?_
    obtain ⟨a, xs, rfl, hd, rt⟩ := Z3.tab r3 ht
    have hkey : H3 p = some (.tup (ks.map kV)) := Z3.sub _ _ (l3.G _ _ upd_same)
    have eq : (valV xs ks).isSome = (getT t ks).isSome := by
      rcases rt.val ks with ⟨e1, e2⟩ | ⟨_, _, e1, e2, _⟩ <;> rw [e1, e2] <;> rfl
    exact ⟨a, valV xs ks, rfl, .inr ⟨xs, ks, p, hd, rfl, hkey, rfl⟩, _, rfl, M3, g3, (l1.trans l2).trans l3, Z3, by rw [eq]; exact q⟩⟩⟩
/-- d[a, b] -/
theorem de_dget (hu : X.A.units + 1 < cLine) (h : DE F X o ρ M fun s M1 => DA F X es ρ M1 fun ss M2 => ∃ ks t y, KeyOk ss ks ∧ viewT M2 s = some t ∧ getT t ks = some y ∧ Q y M2) (hs : NoSl (.Tuple es kk tp)) : DE F X (.Subscript o (.Tuple es kk tp) pos) ρ M Q := ⟨fun g σ H Z => of_pe (pe_dget hu pe_s (pe_tup pa_s) hs) <|
  tS_mono (h.run g σ H Z) fun v H1 ⟨s, M1, g1, l1, r1, Z1, q1⟩ => tA_mono (q1.run g1 σ H1 Z1) fun vs H2 ⟨ss, M2, g2, l2, r2, Z2, ks, t, y, hk, ht, hy, q⟩ => ⟨key_len hk r2, fun p hp => by
    obtain ⟨_, e, Z3, l3⟩ := key_new Z2 hk r2 hp
    subst e
    obtain ⟨a, xs, rfl, hd, rt⟩ := Z3.tab ((r1.mono l2).mono l3) ht
    rcases rt.val ks with ⟨_, e2⟩ | ⟨w, z, e1, e2, rw'⟩
    · rw [e2] at hy; cases hy
    · rw [e2] at hy; cases hy
      exact ⟨a, w, rfl, .inr ⟨xs, ks, p, hd, rfl, upd_same, e1.symm⟩, _, M2, _, (l1.trans l2).trans l3, rw', Z3, q⟩⟩⟩
/-- d[a, b] = v -/
theorem ds_dput {p2 : Pos} (hu : X.A.units + 1 < cLine) (h : DE F X value ρ M fun y M1 => DE F X o ρ M1 fun s M2 => DA F X es ρ M2 fun ss M3 => ∃ ks n t, KeyOk ss ks ∧ s = .p n ∧ M3[n]? = some (.dT t) ∧ t.length < sizeLine ∧ N.nx ρ (M3.set n (.dT (putT t ks y))))
    (hs : swapsWith value (some (.Subscript o (.Tuple es kk tp) p2)) pos.line X.env = pure false) : DS F X (.Assign [.Subscript o (.Tuple es kk tp) p2] value pos) ρ M N := ⟨fun g σ H Z => of_ps (ps_dput hu pe_s (pe_tup pa_s) pe_s hs) <|
  tS_mono (h.run g σ H Z) fun u H0 ⟨y, M0, g0, l0, r0, Z0, q0⟩ => tS_mono (q0.run g0 σ H0 Z0) fun v H1 ⟨s, M1, g1, l1, r1, Z1, q1⟩ => tA_mono (q1.run g1 σ H1 Z1) fun vs H2 ⟨ss, M2, g2, l2, r2, Z2, ks, n, t, hk, es', em, hl, q⟩ => ⟨key_len hk r2, fun p hp => by
    subst es'
    obtain ⟨_, e, Z3, l3⟩ := key_new Z2 hk r2 hp
    subst e
    obtain ⟨a, rfl, ea⟩ := (r1.mono l2).mono l3
    obtain ⟨xs, h1, h2⟩ := Z3.ob n _ a em ea
    refine ⟨a, _, rfl, .inr ⟨xs, ks, p, h1, rfl, upd_same, by rw [h2.len]; exact hl, rfl⟩, ?_⟩
    have Z4 := Z3.write (c' := .dT (putT t ks y)) (o := .dT (putK xs ks u)) em ea (by intro h; cases h) ⟨_, upd_same, h2.put (((r0.mono l1).mono l2).mono l3)⟩
    exact ⟨ρ, _, _, ((l0.trans l1).trans l2).trans l3, Z4, q⟩⟩⟩
theorem Sim.bury {K : PySem.W.Frag} {g : Gh} {σ : L2.St} {H : Hp} (Z : Sim K F g ρ M σ H) {n : Nat} {a : Addr} {u : HO} (e : M[n]? = some .dead) (ea : g.θ[n]? = some a) (hu : H a = some u) (ga : g.G a = none) (h0 : F.H0 a = none) : Sim K F ⟨upd g.G a u, g.θ⟩ ρ M σ H ∧ Gle g ⟨upd g.G a u, g.θ⟩ := by
  have L : Gle g ⟨upd g.G a u, g.θ⟩ := ⟨Le.new ga, [], by simp⟩
  refine ⟨⟨fun b v h => ?_, Z.ln, fun i s q => ?_, Z.ml, fun i c b q1 q2 => ?_, Z.nd, Z.tr, fun i c b q1 q2 => ?_, Z.pre, Z.fr, Z.own, fun b v h => ?_, Z.g0.trans L.G⟩, L⟩
  · have h : upd g.G a u b = some v := h
    by_cases q : b = a
    · subst q; rw [upd_same] at h; cases h; exact hu
    · rw [upd_ne q] at h; exact Z.sub _ _ h
  · obtain ⟨w, k1, k2⟩ := Z.sl i s q
    exact ⟨w, k1, k2.mono L⟩
  · exact (Z.ob i c b q1 q2).mono L fun _ h => h
  · rcases Z.go i c b q1 q2 with h | h
    · exact .inl h
    · by_cases q : b = a
      · subst q
        have := nodup_get Z.nd q2 ea
        subst this
        rw [e] at q1; cases q1; exact .inl rfl
      · exact .inr (by show upd g.G a u b = none; rw [upd_ne q]; exact h)
  · by_cases q : b = a
    · subst q; exact .inr h0
    · have h : upd g.G a u b = some v := h
      rw [upd_ne q] at h; exact Z.gn _ _ h
/-- a dict turned into data -/
theorem Sim.freezeT {K : PySem.W.Frag} {g : Gh} {σ : L2.St} {H : Hp} (Z : Sim K F g ρ M σ H) {n : Nat} {ds : List (List Key × D)} (e : M[n]? = some (.dT (tabS ds))) (hn : F.θ0.length ≤ n) :
    ∃ a vs, g.θ[n]? = some a ∧ H a = some (.dT vs) ∧ ∀ od, ∃ G', Sim K F ⟨G', g.θ⟩ ρ (M.set n .dead) σ (upd H a (.frz od (.dT vs))) ∧ Gle g ⟨G', g.θ⟩ ∧ Rep K G' (.ref a) (.dT ds) := by
  have hl : n < g.θ.length := by rw [← Z.ml]; exact (List.getElem?_eq_some_iff.mp e).1
  refine ⟨g.θ[n], ?_⟩
  have ea : g.θ[n]? = some g.θ[n] := List.getElem?_eq_getElem hl
  generalize g.θ[n] = a at ea
  obtain ⟨vs, h1, h2⟩ := Z.ob n _ a e ea
  have ga : g.G a = none := (Z.go n _ a e ea).resolve_left (by intro h; cases h)
  obtain ⟨l, el⟩ := Z.pre
  have a0 : a ∉ F.θ0 := fun h => by
    obtain ⟨j, hj, ej⟩ := List.getElem_of_mem h
    have q : g.θ[j]? = some a := by
      rw [el, List.getElem?_append_left hj, List.getElem?_eq_getElem hj, ej]
    have := nodup_get Z.nd q ea
    omega
  have h0 : F.H0 a = none := (Z.own a (List.mem_of_getElem? ea)).resolve_left a0
  refine ⟨vs, ea, h1, fun od => ?_⟩
  have Z1 := Z.write (c' := .dead) (o := .frz od (.dT vs)) e ea (by intro h; cases h) trivial
  have hM : (M.set n .dead)[n]? = some .dead := List.getElem?_set_self (by rw [Z.ml]; exact hl)
  obtain ⟨Z2, L⟩ := Z1.bury hM ea upd_same ga h0
  exact ⟨_, Z2, L, .dT upd_same (tab_repT (h2.mono L))⟩
theorem db_freezeT {bl : List Stmt} {i n : Nat} {ds : List (List Key × D)} (hs : ρ[i]? = some (some (.p n))) (e : M[n]? = some (.dT (tabS ds))) (hn : F.θ0.length ≤ n) (h : DB F X bl (ρ.set i (some (.d (.dT ds)))) (M.set n .dead) N) : DB F X bl ρ M N := ⟨fun g σ H Z => by
  obtain ⟨v, h1, a', hv, ha'⟩ := Z.sl i _ hs
  obtain ⟨a, vs, ea, hd, key⟩ := Z.freezeT e hn
  rw [ha'] at ea; cases ea
  have hσ : σ.set i (some v) = σ := by
    obtain ⟨hi, q⟩ := List.getElem?_eq_some_iff.mp h1
    exact List.ext_getElem? fun j => by
      by_cases hj : i = j
      · subst hj; rw [List.getElem?_set_self hi, h1]
      · rw [List.getElem?_set_ne hj]
  intro pins s I
  obtain ⟨od, I1⟩ := I.lock hd trivial
  obtain ⟨G', Z', L, r⟩ := key od
  have Z2 := Z'.set (i := i) (v := v) (s := .d (.dT ds)) (by rw [hv]; exact r)
  rw [hσ] at Z2
  exact sB_mono (h.run _ σ _ Z2) (EndsOf.le L) pins s I1⟩
end
end DL
end

section
set_option Elab.async false
set_option linter.all false
set_option maxRecDepth 100000
set_option maxHeartbeats 2000000
namespace DL
open PySem PySem.Spec PyProof.Rows L2
section
variable {X : Cx} {F : Fc} {ρ : Rho} {M : Mem} {Q : S → Mem → Prop} {QT : Bool → Mem → Prop} {N : DEnds} {a b c e o : Expr} {es : List Expr} {st : Stmt} {rest : List Stmt} {pos apos p : Pos} {x y : Str}
/-- one turn of a comprehension, whatever its target did -/
theorem lc_stepG {g : Gh} {ρw ρ' : Rho} {σw σ' : L2.St} {H : Hp} {D0 : Addr} {I : Nat → List D → Mem → Prop} {k m : Nat} {scope : Scope} {ifs : List Expr} {elt : Expr} (hm : m = g.θ.length) (P : LcPv X.K F g D0 ρw σw m I k H)
    (hset : ∀ G' M H, Le g.G G' → Sim X.K F ⟨G', g.θ ++ [D0]⟩ ρw M σw H → Sim X.K F ⟨G', g.θ ++ [D0]⟩ ρ' M σ' H)
    (hwipe : ∀ G' M H, Sim X.K F ⟨G', g.θ ++ [D0]⟩ ρ' M σ' H → Sim X.K F ⟨G', g.θ ++ [D0]⟩ ρw M σw H)
    (ht : ∀ acc M1, I k acc M1 → M1.length = m → LcTurn F X scope ifs elt ρ' m acc M1 (fun acc' M4 => I (k + 1) acc' M4) (fun M4 => I (k + 1) acc M4)) :
    ttA X scope ifs σ' H fun bb H3 =>
      if bb = true then teA X scope elt σ' H3 fun y H4 => ∃ acc, H4 D0 = some (.lst acc) ∧ acc.length < sizeLine ∧ LcPv X.K F g D0 ρw σw m I (k + 1) (upd H4 D0 (.lst (acc ++ [y])))
      else LcPv X.K F g D0 ρw σw m I (k + 1) H3 := by
  obtain ⟨acc, M1, G', l, hl, Z1, q⟩ := P
  have Zs := hset _ _ _ l Z1
  intro s H' C' cl fp
  have key : ∀ {g4 : Gh} {M4 : Mem} {c : C}, Gle ⟨G', g.θ ++ [D0]⟩ g4 → (M4 ++ [c]).length = g4.θ.length → M4.length = m → g4.θ = g.θ ++ [D0] := fun {g4 M4 c} l4 h4 hl4 => by
    obtain ⟨t, et⟩ := l4.θ
    have : t = [] := by
      have e2 : g4.θ.length = m + 1 := by rw [← h4]; simp [hl4]
      rw [et] at e2
      simp at e2
      rw [← hm] at e2
      exact List.eq_nil_of_length_eq_zero (by omega)
    rw [et, this, List.append_nil]
  intro pins s1 I1
  refine thn ((ht acc M1 q hl s H' C' cl fp).run _ _ _ Zs pins s1 I1) fun bb s2 ⟨H3, I3, M2, g3, l3, Z3, q1, q2⟩ => ⟨H3, I3, ?_⟩
  cases bb with
  | false =>
    obtain ⟨M4, e4, hl4, q4⟩ := q2 rfl
    subst e4
    have eθ := key l3 Z3.ml hl4
    obtain ⟨G3, θ3⟩ := g3
    have eθ : θ3 = g.θ ++ [D0] := eθ
    subst eθ
    exact ⟨acc, M4, G3, l.trans l3.G, hl4, hwipe _ _ _ Z3, q4⟩
  | true =>
    show teA X scope elt _ H3 _
    intro s H' C' cl fp
    refine tS_mono ((q1 rfl s H' C' cl fp).run _ _ _ Z3) fun y H4 ⟨t, M3, g4, l4, r4, Z4, yd, M4, et, e4, hl4, hsz, q4⟩ => ?_
    subst et e4
    have eθ := key (l3.trans l4) Z4.ml hl4
    obtain ⟨G4, θ4⟩ := g4
    have eθ : θ4 = g.θ ++ [D0] := eθ
    subst eθ
    have e1 : (M4 ++ [C.lst (acc.map S.d)])[m]? = some (C.lst (acc.map S.d)) := by rw [← hl4, List.getElem?_append_right (Nat.le_refl _)]; simp
    have e2 : (g.θ ++ [D0])[m]? = some D0 := by rw [hm, List.getElem?_append_right (Nat.le_refl _)]; simp
    obtain ⟨xs, h1, h2⟩ := Z4.ob m _ D0 e1 e2
    refine ⟨xs, h1, by rw [h2.length]; simpa using hsz, ?_⟩
    have Z5 := hwipe _ _ _ (set_cont Z4 e1 e2 (repSs_append h2 (.cons r4 .nil)))
    have e5 : (M4 ++ [C.lst (acc.map S.d)]).set m (C.lst (acc.map S.d ++ [S.d yd])) = M4 ++ [C.lst ((acc ++ [yd]).map S.d)] := by
      rw [← hl4, List.set_append_right _ _ (Nat.le_refl _)]; simp
    rw [e5] at Z5
    exact ⟨acc ++ [yd], M4, G4, l.trans (l3.G.trans l4.G), hl4, Z5, q4⟩
theorem lc_endG {K : PySem.W.Frag} {g g0 : Gh} {σ σw : L2.St} {ρw : Rho} {H H1 : Hp} {D0 : Addr} {I : Nat → List D → Mem → Prop} {n : Nat} (Z : Sim K F g ρ M σ H) (l0 : Gle g0 g) (P : LcPv K F g D0 ρw σw M.length I n H1)
    (hd : ∀ acc M1, I n acc M1 → M1.length = M.length → M1.all C.fd = true ∧ Q (.d (.lst acc)) M1) : Post K F ρ σ g0 Q (.ref D0) H1 := by
  obtain ⟨acc, M1, G', l, hl, Z1, q⟩ := P
  obtain ⟨hf, q⟩ := hd acc M1 q hl
  obtain ⟨pl, pe⟩ := Z.pre
  have hθ : F.θ0.length ≤ M1.length := by rw [hl, Z.ml, pe, List.length_append]; omega
  obtain ⟨a, G'', ea, Z2, L2', r⟩ := Z1.freeze (n := M1.length) (ss := acc.map S.d) (ds := acc) (by rw [List.getElem?_append_right (Nat.le_refl _)]; simp) (datas_map acc) hθ
  have : a = D0 := by
    have ml : M1.length = g.θ.length := by rw [hl, Z.ml]
    rw [show (({ G := G', θ := g.θ ++ [D0] } : Gh).θ) = g.θ ++ [D0] from rfl, ml, List.getElem?_append_right (Nat.le_refl _)] at ea
    simp at ea
    exact ea.symm
  subst this
  have e : (M1 ++ [C.lst (acc.map S.d)]).set M1.length .dead = M1 ++ [C.dead] := by
    rw [List.set_append_right _ _ (Nat.le_refl _)]; simp
  rw [e] at Z2
  have Z3 := Z.drop Z2 (l.trans L2'.G) hf
  exact ⟨.d (.lst acc), M1, ⟨G'', g.θ⟩, l0.trans ⟨l.trans L2'.G, [], by simp⟩, r, Z3, q⟩
theorem lc_keysT {d D0 : Addr} {od : Obj} {kvs : List (List Key × V)} {gg : TG} {tt : TT} {te : TE} {vs : List Nat} {σ : L2.St} {H1 : Hp} {Qd : Hp → Prop} (Pv : Nat → Hp → Prop) (h0 : Pv 0 (upd H1 D0 (.lst []))) (hl : ∀ i H, i ≤ kvs.length → Pv i H → H d = some (.frz od (.dT kvs)))
    (hs : ∀ i k v q H, kvs[i]? = some (k, v) → H q = some (.tup (k.map kV)) → Pv i H → gg (.ref q) (wipe σ vs) H fun σ2 H2 => wipe σ2 vs = wipe σ vs ∧ tt σ2 H2 fun b H3 =>
      if b = true then te σ2 H3 fun y H4 => ∃ acc, H4 D0 = some (.lst acc) ∧ acc.length < sizeLine ∧ Pv (i + 1) (upd H4 D0 (.lst (acc ++ [y]))) else Pv (i + 1) H3) (hd : ∀ H, Pv kvs.length H → Qd H) :
    ∃ W : Nat → Nat → Hp → Prop, (∃ m, W 0 m (upd H1 D0 (.lst []))) ∧ ∀ i m H, W i m H →
      ((Itkt d od kvs).stop i H ∧ Qd H) ∨ ((Itkt d od kvs).go i H ∧ ∃ Nx : Hp → Prop, (∀ H', Nx H' → ∃ m', m' < m ∧ W (i + 1) m' H') ∧ ∀ x H', (Itkt d od kvs).yld i H x H' → gg x (wipe σ vs) H' fun σ2 H2 => wipe σ2 vs = wipe σ vs ∧ tt σ2 H2 fun b H3 =>
        if b = true then te σ2 H3 fun y H4 => ∃ acc, H4 D0 = some (.lst acc) ∧ acc.length < sizeLine ∧ Nx (upd H4 D0 (.lst (acc ++ [y]))) else Nx H3) := by
  refine ⟨fun i m H => m = kvs.length - i ∧ i ≤ kvs.length ∧ Pv i H, ⟨kvs.length, rfl, Nat.zero_le _, h0⟩, ?_⟩
  rintro i m H ⟨rfl, hi, p⟩
  have q := hl i H hi p
  rcases Nat.lt_or_ge i kvs.length with hlt | hge
  · right
    refine ⟨⟨q, hlt⟩, Pv (i + 1), fun H' p' => ⟨kvs.length - (i + 1), by omega, rfl, hlt, p'⟩, ?_⟩
    rintro x H' ⟨rfl, k, v, w, h1, rfl, h2⟩
    exact hs i k v w _ h1 h2 p
  · left
    have e : i = kvs.length := by omega
    subst e
    exact ⟨⟨q, Nat.le_refl _⟩, hd H p⟩
theorem repT_get {K : PySem.W.Frag} {G : Hp} : ∀ {vs : List (List Key × V)} {ds : List (List Key × D)} {i : Nat} {k : List Key} {v : V}, RepT K G vs ds → vs[i]? = some (k, v) → ∃ d, ds[i]? = some (k, d) ∧ Rep K G v d
  | _, _, i, _, _, .nil, e => by simp at e
  | _, _, 0, _, _, .cons h _, e => by simp at e; obtain ⟨rfl, rfl⟩ := e; exact ⟨_, rfl, h⟩
  | _, _, i + 1, _, _, .cons _ r, e => by
    obtain ⟨d, h1, h2⟩ := repT_get (i := i) r (by simpa using e)
    exact ⟨d, by simpa using h1, h2⟩
theorem repT_len {K : PySem.W.Frag} {G : Hp} : ∀ {vs : List (List Key × V)} {ds : List (List Key × D)}, RepT K G vs ds → vs.length = ds.length
  | _, _, .nil => rfl
  | _, _, .cons _ r => by simp [repT_len r]
theorem set_back {α : Type} {l : List (Option α)} {i j : Nat} {u v : α} (hij : i ≠ j) : (((((l.set j none).set i none).set i (some u)).set j (some v)).set j none).set i none = (l.set j none).set i none := by
  apply List.ext_getElem?
  intro k
  simp only [List.getElem?_set, List.length_set]
  split <;> split <;> simp_all
/-- [e for a, b in d], d a dict with pairs as keys -/
theorem de_lcK {i j kk : Nat} {px py tp : Pos} {elt iter : Expr} {ifs : List Expr} {scope : Scope} (hc : X.calm = true) (hN : X.N.Nodup) (hij : i ≠ j) (ok : BlkOk X.N X.env.scope scope [(x, i), (y, j)])
    (hgx : ∀ (s : Shared) (H : Hp) (C : Addr) (cl : List (Str × Addr)) (fp : List Addr), PG (X.blk s H scope (compEnvC scope cl C X.env) fp) (.Name x px) (gName i))
    (hgy : ∀ (s : Shared) (H : Hp) (C : Addr) (cl : List (Str × Addr)) (fp : List Addr), PG (X.blk s H scope (compEnvC scope cl C X.env) fp) (.Name y py) (gName j))
    (hcb : ∀ (s : Shared) (H : Hp) (C : Addr) (cl : List (Str × Addr)) (fp : List Addr), (X.blk s H scope (compEnvC scope cl C X.env) fp).calm = true) (hs : ∀ x, foldedSetIterable iter X.env x = pure x)
    (h : DE F X iter ρ M fun s M' => ∃ ds, s = .d (.dT ds) ∧ (∀ k d, (k, d) ∈ ds → k.length = 2) ∧ ∃ I : Nat → List D → Mem → Prop, I 0 [] M' ∧ (∀ k k1 k2 d acc M1, ds[k]? = some ([k1, k2], d) → I k acc M1 → M1.length = M'.length → LcTurn F X scope ifs elt ((((ρ.set j none).set i none).set i (some (kS k1))).set j (some (kS k2))) M'.length acc M1 (fun acc' M4 => I (k + 1) acc' M4) (fun M4 => I (k + 1) acc M4)) ∧
      ∀ acc M1, I ds.length acc M1 → M1.length = M'.length → M1.all C.fd = true ∧ Q (.d (.lst acc)) M1) : DE F X (.ListComp elt [⟨.Tuple [.Name x px, .Name y py] kk tp, iter, ifs, 0⟩] scope pos) ρ M Q := ⟨fun g σ H Z => of_pe (pe_lc (own := [(x, i), (y, j)]) (g := gTup X.K 2 (gCons (gName i) (gCons (gName j) gNil))) (tt := ttA X scope ifs) (te := teA X scope elt) hc hN (pi_keys pe_s) ok
      (fun s H C cl fp => pg_tup (hcb s H C cl fp) (pgs_cons (hgx s H C cl fp) (pgs_cons (hgy s H C cl fp) pgs_nil)))
      (fun s H C cl fp => ⟨fun pins s1 σ H' Q I h => h s H C cl fp pins s1 I⟩) (fun s H C cl fp => ⟨fun pins s1 σ H' Q I h => h s H C cl fp pins s1 I⟩) hs) <|
  tS_mono (h.run g σ H Z) fun v H1 ⟨s, M', g', l, r, Z', ds, es, h2l, I, i0, turn, done⟩ => by
    subst es
    have r : Rep X.K g'.G v (.dT ds) := r
    cases r with
    | @dT d od kvs _ h1 h2 =>
      refine ⟨d, od, rfl, .inr ⟨kvs, Z'.sub _ _ h1, fun D0 hD => lc_keysT (LcPv X.K F g' D0 ((ρ.set j none).set i none) ((σ.set j none).set i none) M'.length I) ?_ (fun k H2 _ ⟨acc, M1, G', l', _, Z1, _⟩ => Z1.sub _ _ (l' _ _ h1)) (fun k ks v q H2 hk hq P => ?_) (fun H2 P => ?_)⟩⟩
      · obtain ⟨Z2, L⟩ := Z'.allocP (o := .lst []) (c := .lst []) hD ⟨[], upd_same, .nil⟩
        exact ⟨[], M', g'.G, Le.refl _, rfl, (Z2.wipe j).wipe i, i0⟩
      · obtain ⟨dd, hd, rd⟩ := repT_get h2 hk
        have hk2 := h2l ks dd (List.mem_of_getElem? hd)
        match ks, hk2, hd, hq with
        | [k1, k2], _, hd, hq =>
          refine ⟨q, [kV k1, kV k2], rfl, SqT.of hq, rfl, kV k1, [kV k2], rfl, kV k2, [], rfl, rfl, ?_, ?_⟩
          · exact set_back hij
          · refine lc_stepG Z'.ml P (fun G' M H lG Z => (Z.set (i := i) (v := kV k1) (s := kS k1) (rep_kD k1)).set (i := j) (v := kV k2) (s := kS k2) (rep_kD k2)) (fun G' M H Z => ?_) (fun acc M1 q hl => turn k k1 k2 dd acc M1 hd q hl)
            have Z2 := (Z.wipe j).wipe i
            rw [show wipe σ (List.map (fun x => x.snd) [(x, i), (y, j)]) = (σ.set j none).set i none from rfl, set_back hij, set_back hij] at Z2
            exact Z2
      · rw [repT_len h2] at P
        exact lc_endG Z' l P done⟩
end
end DL
end

section
set_option Elab.async false
set_option linter.all false
set_option maxRecDepth 100000
set_option maxHeartbeats 2000000
namespace DL
open PySem PySem.Spec PyProof.Rows L2
/-! ### data that read as plain data -/
mutual
def pyD : D → PyData
  | .non => .none
  | .bl b => .bool b
  | .int i => .int i
  | .str x => .str x
  | .lst ds => .list (pyDs ds)
  | .tup ds => .tuple (pyDs ds)
  | _ => .none
def pyDs : List D → List PyData
  | [] => []
  | d :: ds => pyD d :: pyDs ds
end
mutual
def okD : D → Bool
  | .lst ds => okDs ds
  | .tup ds => okDs ds
  | .ins _ _ => false
  | .dT _ => false
  | .dK _ => false
  | .raw _ => false
  | _ => true
def okDs : List D → Bool
  | [] => true
  | d :: ds => okD d && okDs ds
end
theorem pyDs_map : ∀ ds : List D, pyDs ds = ds.map pyD
  | [] => rfl
  | d :: ds => by rw [pyDs, pyDs_map ds]; rfl
theorem okDs_all : ∀ ds : List D, okDs ds = ds.all okD
  | [] => rfl
  | d :: ds => by rw [okDs, okDs_all ds]; rfl
section
variable {X : Cx} {pins : List (Addr × Obj)} {σ : L2.St} {H G : Hp} {s : Shared}
mutual
theorem rep_reads (I : Inv X pins σ H s) (l : Le G H) : ∀ {d : D} {v : V} {u : Value}, okD d = true → Rep X.K G v d → RelV v u → ∃ as, Reads s.heap u (pyD d) as ∧ ∀ b ∈ as, b < s.heap.objs.size
  | .non, _, u, _, .non, r => by cases (show u = Value.none from r); exact ⟨_, .none, fun _ h => nomatch h⟩
  | .bl b, _, u, _, .bl _, r => by cases (show u = Value.bool b from r); exact ⟨_, .bool b, fun _ h => nomatch h⟩
  | .int i, _, u, _, .int _, r => by obtain ⟨t, rfl⟩ := (show ∃ t, u = Value.int i t from r); exact ⟨_, .int i t, fun _ h => nomatch h⟩
  | .str x, _, u, _, .str _, r => by obtain ⟨t, rfl⟩ := (show ∃ t, u = Value.str x t from r); exact ⟨_, .str x t, fun _ h => nomatch h⟩
  | .lst ds, .ref a, u, ok, .lst h1 h2, r => by
    cases (show u = Value.ref a from r)
    obtain ⟨its, rv, ⟨o, n, ho, hc, _, hd⟩, _⟩ := I.list (le_l l h1)
    obtain ⟨as, h, lv⟩ := repL_reads I l (by simpa [okD] using ok) h2 rv
    refine ⟨_, .list ho hc hd (by simpa [pyD] using h), fun b hb => ?_⟩
    rcases List.mem_cons.mp hb with rfl | hb
    · exact Heap.lt_size ho
    · exact lv b hb
  | .tup ds, .ref a, u, ok, .tup h1 h2, r => by
    cases (show u = Value.ref a from r)
    obtain ⟨its, rv, ⟨o, ho, hc, n, hd⟩, _⟩ := I.tuple (le_t l h1)
    obtain ⟨as, h, lv⟩ := repL_reads I l (by simpa [okD] using ok) h2 rv
    exact ⟨_, .tuple ho hc hd (by simpa [pyD] using h), lv⟩
theorem repL_reads (I : Inv X pins σ H s) (l : Le G H) : ∀ {ds : List D} {vs : List V} {us : List Value}, okDs ds = true → RepL X.K G vs ds → Vals vs us → ∃ as, ReadsAll s.heap us (pyDs ds) as ∧ ∀ b ∈ as, b < s.heap.objs.size
  | [], _, _, _, .nil, r => by cases r; exact ⟨_, .nil, fun _ h => nomatch h⟩
  | d :: ds, _, _, ok, .cons h t, r => by
    cases r with
    | cons r rr =>
      have ok : okD d = true ∧ okDs ds = true := by simpa [okDs] using ok
      obtain ⟨as, h1, l1⟩ := rep_reads I l ok.1 h r
      obtain ⟨bs, h2, l2⟩ := repL_reads I l ok.2 t rr
      exact ⟨_, .cons h1 h2, fun b hb => (List.mem_append.mp hb).elim (l1 b) (l2 b)⟩
end
/-- a value stands for data -/
def Stands (K : PySem.W.Frag) (G : Hp) (u : Value) (d : D) : Prop := ∃ v, RelV v u ∧ Rep K G v d
theorem each_stands {K : PySem.W.Frag} : ∀ {vs : List V} {us : List Value} {ds : List D}, RepL K G vs ds → Vals vs us → PySem.W.EachIs (Stands K G) us ds
  | _, _, _, .nil, r => by cases r; exact .nil
  | _, _, _, .cons h t, r => by
    cases r with
    | cons r rr => exact .cons ⟨_, r, h⟩ (each_stands t rr)
theorem stands_each {K : PySem.W.Frag} : ∀ {us : List Value} {ds : List D}, PySem.W.EachIs (Stands K G) us ds → ∃ vs, RepL K G vs ds ∧ Vals vs us
  | _, _, .nil => ⟨[], .nil, .nil⟩
  | _, _, .cons ⟨v, r, h⟩ t => by
    obtain ⟨vs, h2, r2⟩ := stands_each t
    exact ⟨v :: vs, .cons h h2, .cons r r2⟩
theorem each_reads {us : List Value} {ds : List D} (I : Inv X pins σ H s) (l : Le G H) (ok : ds.all okD = true) : PySem.W.EachIs (Stands X.K G) us ds → PySem.W.EachIs (fun v b => ∃ as, Reads s.heap v (pyD b) as ∧ ∀ c ∈ as, c < s.heap.objs.size) us ds := fun e =>
  (PySem.W.each_mem e).mono fun u d ⟨⟨v, r, h⟩, hd⟩ => rep_reads I l (List.all_eq_true.mp ok d hd) h r
end
section
variable {P : Program} {w : World} {A : Around} {E : Value → Shared → Prop} {s : Shared} {Q : Value → Shared → Prop}
/-- sorted(t) up to the sort, t a list or a tuple -/
theorem sorted_seq {t : Addr} {T : String} {o : Obj} {items : Array Value} {n : Nat} (hT : T = "list" ∨ T = "tuple") (ho : s.heap.get? t = some o) (hc : o.cls = .type T) (hd : o.data = .seq items n) (hz : items.size ≤ sizeLine)
    (h : ∀ h2 : Heap, (∀ b u, s.heap.get? b = some u → h2.get? b = some u) → wpAny (model P w) A.in1 (call (.builtin "list.sort") [.ref h2.objs.size]) (fun _ s2 => Q (.ref h2.objs.size) s2) E { s with heap := h2.push (seqObj "list" items.toList.toArray 0) }) :
    wpAny (model P w) A (call (.builtin "sorted") [.ref t]) Q E s := by
  refine Calls.call_function_entry kind_sorted plain_sorted entry_sorted (args_sorted1 _) ?_
  unfold Builtin.«sorted»
  refine wpAny_bind (m := checkCount "sorted" 1 1 _) (wpAny_pure ?_)
  refine wpAny_bind (wpAny_collect_seq t hT ho hc hd (fun h2 hk => ?_) hz)
  refine wpAny_bind (wpAny_newList ?_ (by simpa using hz))
  refine wpAny_bind (wpAny_holding (wpAny_mono (h h2 hk) (fun _ s2 x => ?_) fun _ _ e => e))
  exact wpAny_pure ⟨_, rfl, x⟩
end
mutual
def depD : D → Nat
  | .lst ds => depDs ds + 1
  | .tup ds => depDs ds + 1
  | _ => 0
def depDs : List D → Nat
  | [] => 0
  | d :: ds => max (depD d) (depDs ds)
end
abbrev sortD (ds : List D) : List D := ds.mergeSort (PySem.W.dataLe false pyD)
/-- what a sort asks of its items -/
structure SortOk (u : Nat) (ds : List D) : Prop where
  ok : ds.all okD = true
  al : PySem.W.AllAlike (ds.map pyD)
  so : PySem.W.Sortable (ds.map pyD)
  un : ∀ d ∈ ds, u + 3 + (pyD d).depth < cLine
def rSortD (K : PySem.W.Frag) (u : Nat) : List V → Hp → VK → Prop := fun vs H Q => ∃ a xs G ds, vs = [.ref a] ∧ (SqL K H a xs ∨ SqT K H a xs) ∧ Le G H ∧ RepL K G xs ds ∧ SortOk u ds ∧
  ∀ xs' p, RepL K G xs' (sortD ds) → H p = none → Q (.ref p) (upd H p (.lst xs'))
theorem cr_sortD {X : Cx} : CallR X (.builtin "sorted") (rSortD X.K X.A.units) := by
  intro pins s σ H vs us Q I r h
  obtain ⟨a, xs, G, ds, rfl, hq, lG, rd, so, q⟩ := h
  rw [Vals.ref1 r]
  have core : ∀ {its : List Value} {T : String} {o : Obj} {n : Nat}, (T = "list" ∨ T = "tuple") → s.heap.get? a = some o → o.cls = .type T → o.data = .seq its.toArray n → Vals xs its → xs.length ≤ sizeLine → wpAny (model X.prog X.w) X.A (call (.builtin "sorted") [.ref a]) (EP X pins σ Q) X.xe s := by
    intro its T o n hT ho hc hd rv hz
    have hlen : its.length = xs.length := rv.length.symm
    refine sorted_seq hT ho hc hd (by rw [List.size_toArray, hlen]; exact hz) fun h2 hk => ?_
    have I2 : Inv X pins σ H { s with heap := h2 } := I.kept (t' := s.toks) hk
    have hob : (h2.push (seqObj "list" its.toArray.toList.toArray 0)).get? h2.objs.size = some (seqObj "list" its.toArray.toList.toArray 0) := Heap.get?_push_size _ rfl
    have es := each_stands rd rv
    have er := each_reads I2 lG so.ok es
    have kp : ∀ (b : Addr) (u : Obj), h2.get? b = some u → (h2.push (seqObj "list" its.toArray.toList.toArray 0)).get? b = some u := fun b u e => Heap.get?_push_of_some _ e
    refine PySem.W.list_sort_data (s := { s with heap := h2.push (seqObj "list" its.toArray.toList.toArray 0) }) (vs := its) (bs := ds) (enc := pyD) (R := Stands X.K G) hob es ?_ so.al so.so (by rw [← rd.length]; exact hz) (fun d hd => by
      have := so.un d hd
      show X.A.units + 1 + 1 + (pyD d).depth < cLine
      omega) fun out hlo eo => ?_
    · exact er.mono fun v d ⟨as, r, lv⟩ => ⟨as, PyProof.Rows.Reads.keeps kp r, fun z => Nat.lt_irrefl _ (lv _ z)⟩
    · obtain ⟨vs', r1, r2⟩ := stands_each eo
      have hn : H h2.objs.size = none := I2.hok.fresh (Nat.le_refl _)
      obtain ⟨eF, heF⟩ := PyProof.Rows.sortedHeap_at (vs := its) (out := out.toArray) hob
      refine ⟨.ref h2.objs.size, upd H h2.objs.size (.lst vs'), I2.laid (a := h2.objs.size) (o := .lst vs') (t' := s.toks) (fun b u e => ?_) (Nat.le_refl _) ⟨by rw [r1.length, List.length_mergeSort, ← rd.length]; exact hz, out, eF, r2, heF⟩, rfl, q vs' _ r1 hn⟩
      rw [PyProof.Rows.sortedHeap_old (Nat.ne_of_lt (Heap.lt_size e)) (Heap.lt_size (kp b u e))]
      exact kp b u e
  rcases hq with hq | hq
  · obtain ⟨its, rv, ⟨o, n, ho, hc, _, hd⟩, hz⟩ := I.list hq
    exact core (.inl rfl) ho hc hd rv hz
  · obtain ⟨its, rv, ⟨o, ho, hc, n, hd⟩, hz⟩ := I.tuple hq
    exact core (.inr rfl) ho hc hd rv hz
section
variable {X : Cx} {F : Fc} {ρ : Rho} {M : Mem} {Q : S → Mem → Prop}
theorem sorted_args {g : Gh} {σ : L2.St} {H : Hp} {us : List V} {s : S} {ds : List D} (Z : Sim X.K F g ρ M σ H) (hv : view M s = some (.lst ds) ∨ s = .d (.tup ds)) (ru : RepSs X.K g us [s]) : ∃ a xs, us = [.ref a] ∧ (SqL X.K H a xs ∨ SqT X.K H a xs) ∧ RepL X.K g.G xs ds := by
  obtain ⟨v, rfl, rv⟩ := ss1 ru
  rcases hv with hv | rfl
  · obtain ⟨a, xs, rfl, h1, h2⟩ := Z.lst rv hv
    exact ⟨a, xs, rfl, .inl h1, h2⟩
  · obtain ⟨a, xs, rfl, h1, h2⟩ := Z.tup rv
    exact ⟨a, xs, rfl, .inr h1, h2⟩
theorem cd_sorted {s : S} {ds : List D} (hv : view M s = some (.lst ds) ∨ s = .d (.tup ds)) (so : SortOk X.A.units ds) (q : Q (.d (.lst (sortD ds))) M) : CD F X (.builtin "sorted") [s] ρ M Q := cd_of cr_sortD fun g σ H us Z ru => by
  obtain ⟨a, xs, rfl, h1, h2⟩ := sorted_args Z hv ru
  exact ⟨a, xs, g.G, ds, rfl, h1, Z.sub, h2, so, fun xs' p r hp => post_new Z (Gle.refl g) r q p hp⟩
theorem repL_S {K : PySem.W.Frag} {g : Gh} : ∀ {vs : List V} {ds : List D}, RepL K g.G vs ds → RepSs K g vs (ds.map S.d)
  | _, _, .nil => .nil
  | _, _, .cons h r => .cons h (repL_S r)
theorem cd_sortedP {s : S} {ds : List D} (hv : view M s = some (.lst ds) ∨ s = .d (.tup ds)) (so : SortOk X.A.units ds) (q : Q (.p M.length) (M ++ [.lst ((sortD ds).map S.d)])) : CD F X (.builtin "sorted") [s] ρ M Q := cd_of cr_sortD fun g σ H us Z ru => by
  obtain ⟨a, xs, rfl, h1, h2⟩ := sorted_args Z hv ru
  exact ⟨a, xs, g.G, ds, rfl, h1, Z.sub, h2, so, fun xs' p r hp => post_newP Z (Gle.refl g) (repL_S r) q p hp⟩
end
/-! ### repr -/
theorem okD_noDict : ∀ d : D, okD d = true → (pyD d).hasDict = false := by
  have key : ∀ n, (∀ d : D, sizeOf d < n → okD d = true → (pyD d).hasDict = false) ∧ ∀ ds : List D, sizeOf ds < n → okDs ds = true → PyData.hasDictAll (pyDs ds) = false := by
    intro n
    induction n with
    | zero => exact ⟨fun _ h => absurd h (Nat.not_lt_zero _), fun _ h => absurd h (Nat.not_lt_zero _)⟩
    | succ n ih =>
      refine ⟨fun d hd ok => ?_, fun ds hd ok => ?_⟩
      · cases d with
        | lst ds => exact ih.2 ds (by simp at hd; omega) (by simpa [okD] using ok)
        | tup ds => exact ih.2 ds (by simp at hd; omega) (by simpa [okD] using ok)
        | _ => rfl
      · cases ds with
        | nil => rfl
        | cons d ds =>
          have ok : okD d = true ∧ okDs ds = true := by simpa [okDs] using ok
          have h1 := ih.1 d (by simp at hd; omega) ok.1
          have h2 := ih.2 ds (by simp at hd; omega) ok.2
          simp [pyDs, PyData.hasDictAll, h1, h2]
  exact fun d => (key _).1 d (Nat.lt_succ_self _)
/-- what repr asks of its argument -/
structure ReprOk (u : Nat) (d : D) : Prop where
  ok : okD d = true
  sh : (pyD d).showable = true
  un : u + ((pyD d).depth + 1) < cLine
  ln : (pyD d).shown.length ≤ sizeLine
def rReprD (K : PySem.W.Frag) (u : Nat) : List V → Hp → VK → Prop := fun vs H Q => ∃ a G d, vs = [.ref a] ∧ Le G H ∧ Rep K G (.ref a) d ∧ ReprOk u d ∧ Q (.str (pyD d).shown) H
theorem cr_reprD {X : Cx} (hg : X.A.guards = some []) : CallR X (.builtin "repr") (rReprD X.K X.A.units) := by
  intro pins s σ H vs us Q I r h
  obtain ⟨a, G, d, rfl, l, rd, ok, q⟩ := h
  rw [Vals.ref1 r]
  obtain ⟨as, rr, _⟩ := rep_reads I l ok.ok rd (show RelV (.ref a) (.ref a) from rfl)
  exact repr_of_reads' rr ok.sh (PyData.noDict_hsm (okD_noDict d ok.ok)) hg ok.un (fun _ _ e => e) (fun h2 u tk hk => ⟨.str (pyD d).shown, H, I.kept (t' := tk) hk, ⟨u, rfl⟩, q⟩) ok.ln
section
variable {X : Cx} {F : Fc} {ρ : Rho} {M : Mem} {Q : S → Mem → Prop}
theorem cd_repr {xs : List D} (hg : X.A.guards = some []) (ok : ReprOk X.A.units (.lst xs)) (q : Q (.d (.str (pyD (.lst xs)).shown)) M) : CD F X (.builtin "repr") [.d (.lst xs)] ρ M Q := cd_of (cr_reprD hg) fun g σ H us Z ru => by
  obtain ⟨v, rfl, rv⟩ := ss1 ru
  have r : Rep X.K g.G v (.lst xs) := rv
  cases r with
  | @lst a ys _ h1 h2 => exact ⟨a, g.G, _, rfl, Z.sub, .lst h1 h2, ok, post_at Z rsS q⟩
theorem cd_reprT {xs : List D} (hg : X.A.guards = some []) (ok : ReprOk X.A.units (.tup xs)) (q : Q (.d (.str (pyD (.tup xs)).shown)) M) : CD F X (.builtin "repr") [.d (.tup xs)] ρ M Q := cd_of (cr_reprD hg) fun g σ H us Z ru => by
  obtain ⟨v, rfl, rv⟩ := ss1 ru
  have r : Rep X.K g.G v (.tup xs) := rv
  cases r with
  | @tup a ys _ h1 h2 => exact ⟨a, g.G, _, rfl, Z.sub, .tup h1 h2, ok, post_at Z rsS q⟩
/-- .. of a list that may change -/
theorem cd_reprP {n : Nat} {xs : List D} (hg : X.A.guards = some []) (e : M[n]? = some (.lst (xs.map S.d))) (ok : ReprOk X.A.units (.lst xs)) (q : Q (.d (.str (pyD (.lst xs)).shown)) M) : CD F X (.builtin "repr") [.p n] ρ M Q := cd_of (cr_reprD hg) fun g σ H us Z ru => by
  obtain ⟨v, rfl, rv⟩ := ss1 ru
  obtain ⟨a, rfl, ea⟩ := rv
  obtain ⟨ys, h1, h2⟩ := Z.ob n _ a e ea
  have hr : RepL X.K H ys xs := RepL.mono Z.sub (repSs_datas (g := g) h2 (datas_map xs))
  exact ⟨a, H, _, rfl, Le.refl _, .lst (SqL.of h1) hr, ok, post_at Z rsS q⟩
end
end DL
end

section
set_option Elab.async false
set_option linter.all false
set_option maxRecDepth 100000
set_option maxHeartbeats 4000000
namespace DL
open PySem PySem.Spec PyProof.Rows L2
/-! ### sets of ints and texts, with what their walks need -/
def kOf : Value → Key
  | .int i _ => .inl i
  | .str x _ => .inr x
  | _ => .inl 0
theorem kOf_rel : ∀ {k : Key} {u : Value}, RelV (kV k) u → kOf u = k
  | .inl i, u, r => by obtain ⟨t, rfl⟩ := (show ∃ t, u = Value.int i t from r); rfl
  | .inr x, u, r => by obtain ⟨t, rfl⟩ := (show ∃ t, u = Value.str x t from r); rfl
abbrev kE (e : Int × Value) : Key := kOf e.2
abbrev ByText (w : World) : Bool := w.params.followText "set-order"
abbrev bareTab (w : World) : SetTable := .fresh 0 0 (!ByText w)
abbrev bareSet (w : World) : Obj := { cls := .type "set", dict := none, data := .set #[] 0 (bareTab w) }
def hasK (l : List Key) (k : Key) : Bool := l.any fun j => decide (j = k)
theorem hasK_iff {l : List Key} {k : Key} : hasK l k = true ↔ k ∈ l := by
  unfold hasK
  rw [List.any_eq_true]
  exact ⟨fun ⟨j, m, e⟩ => of_decide_eq_true e ▸ m, fun m => ⟨k, m, decide_eq_true rfl⟩⟩
section
variable {P : Program} {w : World}
/-- an entry of such a set -/
def Gd (P : Program) (w : World) (e : Int × Value) : Prop := ∃ k, RelV (kV k) e.2 ∧ e.1 = (mixKind P w).hash k
structure TabM (P : Program) (w : World) (es : Array (Int × Value)) (t : SetTable) (l : List Key) : Prop where
  gd : ∀ e ∈ es.toList, Gd P w e
  pm : (es.toList.map kE).Perm l
  sz : es.size < scanBound
  ft : t.fits es.size = true
  ri : Ris t.place.toList
  ld : ByText w = true ∨ t.led = true
def SetM (P : Program) (w : World) (h : Heap) (a : Addr) (l : List Key) : Prop := l.Nodup ∧ ∃ o es ep t, h.get? a = some o ∧ o.ExactSet ∧ o.data = .set es ep t ∧ TabM P w es t l
theorem SetM.at {h h2 : Heap} {a : Addr} {l : List Key} (R : SetM P w h a l) (k : ∀ o, h.get? a = some o → h2.get? a = some o) : SetM P w h2 a l :=
  let ⟨nd, o, es, ep, t, ho, r⟩ := R
  ⟨nd, o, es, ep, t, k o ho, r⟩
theorem gd_is {e : Int × Value} (g : Gd P w e) (k : Key) : (mixKind P w).is k e.2 = true ↔ kE e = k := by
  obtain ⟨j, r, _⟩ := g
  rw [show kE e = j from kOf_rel r]
  refine ⟨fun q => ?_, fun q => q ▸ kV_is r⟩
  have r2 : RelV (kV k) e.2 := relV_key (show keyIs k e.2 = true from q)
  exact (kOf_rel r).symm.trans (kOf_rel r2)
theorem gd_elems {l : List (Int × Value)} (g : ∀ e ∈ l, Gd P w e) : ElemsOf (mixKind P w) l := fun e m => by
  obtain ⟨k, r, hh⟩ := g e m
  exact ⟨⟨k, kV_is r, hh⟩, key_scan r⟩
theorem TabM.len {es : Array (Int × Value)} {t : SetTable} {l : List Key} (T : TabM P w es t l) : es.size = l.length := by
  rw [← T.pm.length_eq, List.length_map, Array.length_toList]
theorem TabM.has {es : Array (Int × Value)} {t : SetTable} {l : List Key} (T : TabM P w es t l) (k : Key) : k ∈ l ↔ ∃ e ∈ es.toList, (mixKind P w).is k e.2 = true := by
  rw [← T.pm.mem_iff, List.mem_map]
  exact ⟨fun ⟨e, m, q⟩ => ⟨e, m, (gd_is (T.gd e m) k).2 q⟩, fun ⟨e, m, q⟩ => ⟨e, m, (gd_is (T.gd e m) k).1 q⟩⟩
theorem SetM.of {h : Heap} {a : Addr} {l : List Key} (R : SetM P w h a l) : h.SetOf (mixKind P w) a (hasK l) l.length := by
  obtain ⟨_, o, es, ep, t, ho, hx, hd, T⟩ := R
  exact ⟨o, es, ep, t, ho, hx, hd, gd_elems T.gd, fun k => by rw [hasK_iff]; exact T.has k, T.sz, T.ft, T.len⟩
end
def addK (l : List Key) (k : Key) : List Key := if hasK l k = true then l else l ++ [k]
theorem addK_in {l : List Key} {k : Key} (h : k ∈ l) : addK l k = l := if_pos (hasK_iff.2 h)
theorem addK_out {l : List Key} {k : Key} (h : k ∉ l) : addK l k = l ++ [k] := if_neg fun q => h (hasK_iff.1 q)
theorem addK_nodup {l : List Key} {k : Key} (h : l.Nodup) : (addK l k).Nodup := by
  by_cases q : k ∈ l
  · rw [addK_in q]; exact h
  · rw [addK_out q, List.nodup_append]
    exact ⟨h, by simp, fun x hx y hy => by
      rw [List.mem_singleton] at hy
      subst hy
      exact fun e => q (e ▸ hx)⟩
theorem mem_addK {l : List Key} {k j : Key} : j ∈ addK l k ↔ j ∈ l ∨ j = k := by
  by_cases q : k ∈ l
  · rw [addK_in q]
    exact ⟨.inl, fun z => z.elim id fun e => e ▸ q⟩
  · rw [addK_out q]; simp
section
variable {P : Program} {w : World} {A : Around} {E : Value → Shared → Prop} {s : Shared} {a : Addr} {l : List Key}
theorem put_here {h : Heap} {o : Obj} {es es2 : Array (Int × Value)} {ep : Nat} {t t2 : SetTable} (ho : h.get? a = some o) (hd : o.data = .set es ep t) : (h.update a (Obj.putSet es2 t2)).get? a = some { o with data := .set es2 (ep + 1) t2 } := by
  have e := putSet_of es2 t2 hd
  have z := Heap.get?_update_self (Obj.putSet es2 t2) ho (by rw [e]; rfl)
  rwa [e] at z
theorem setM_tail {f : Bool → Sem Unit} (hf : ∀ (b : Bool) (s2 : Shared) (R : Unit → Shared → Prop), R () s2 → wpAny (model P w) A (f b) R E s2) {o : Obj} {es : Array (Int × Value)} {ep : Nat} {t : SetTable} (ho : s.heap.get? a = some o) (hx : o.ExactSet) (hd : o.data = .set es ep t)
    {es2 : Array (Int × Value)} {t2 : SetTable} (nd : l.Nodup) (T : TabM P w es2 t2 l) {dm : Bool} {R : Option Bool → Shared → Prop} (k : ∀ h2, Heap.SameBut a s.heap h2 → SetM P w h2 a l → R (some true) { s with heap := h2 }) :
    wpAny (model P w) A (do
        storeSet a es2 t2
        if (!dm && t2.tooFull) = true then do
            f (relayAll t2 es2 (SetTable.grown es2.size)).2.2
            storeSet a (relayAll t2 es2 (SetTable.grown es2.size)).1 (relayAll t2 es2 (SetTable.grown es2.size)).2.1
            pure (some true)
          else pure (some true)) R E s := by
  refine wpAny_bind (wpAny_storeSet_of ho hd ?_ (fits_of_scanBound T.sz))
  have ho2 := put_here (es2 := es2) (t2 := t2) ho hd
  have b2 := Heap.SameBut.update s.heap a (Obj.putSet es2 t2)
  split
  case isFalse => exact wpAny_pure (k _ b2 ⟨nd, _, es2, _, t2, ho2, hx, rfl, T⟩)
  case isTrue =>
    have p3 := relayAll_perm t2 es2 (SetTable.grown es2.size)
    have f3 := relayAll_fits t2 es2 (SetTable.grown es2.size)
    have r3 := relayAll_ris t2 es2 (SetTable.grown es2.size)
    have l3 := relayAll_led t2 es2 (SetTable.grown es2.size)
    generalize relayAll t2 es2 (SetTable.grown es2.size) = Y at p3 f3 r3 l3 ⊢
    obtain ⟨es3, t3, gv⟩ := Y
    dsimp only at p3 f3 r3 l3 ⊢
    have n3 : es3.size = es2.size := by rw [← Array.length_toList, p3.length_eq, Array.length_toList]
    have T3 : TabM P w es3 t3 l := ⟨fun e m => T.gd e (p3.mem_iff.mp m), (p3.map kE).trans T.pm, by rw [n3]; exact T.sz, f3, r3, T.ld.imp id fun z => by rw [l3]; exact z⟩
    refine wpAny_bind (hf _ _ _ ?_)
    refine wpAny_bind (wpAny_storeSet_of ho2 rfl ?_ (fits_of_scanBound T3.sz))
    exact wpAny_pure (k _ (b2.trans (Heap.SameBut.update _ a _)) ⟨nd, _, es3, _, t3, put_here (es2 := es3) (t2 := t3) ho2 rfl, hx, rfl, T3⟩)
theorem setM_hashed {k : Key} {u : Value} (ru : RelV (kV k) u) {Q : Bool → Shared → Prop} (R : SetM P w s.heap a l) (room : l.length + 1 < scanBound)
    (hQ : ∀ b h2, Heap.SameBut a s.heap h2 → SetM P w h2 a (addK l k) → Q b { s with heap := h2 }) : wpAny (model P w) A (setAddHashed a u ((mixKind P w).hash k)) Q E s := by
  obtain ⟨nd, o, es, ep, t, ho, hx, hd, T⟩ := R
  have isk : (mixKind P w).is k u = true := kV_is ru
  have sc : u.scannable = true := key_scan ru
  have el := gd_elems T.gd
  unfold setAddHashed setAddHashedIn
  refine wpAny_holding (wpAny_bind (wpAny_setState_of ho hd T.ft ?_))
  dsimp only
  rw [byScan_of sc T.sz el]
  simp only [↓reduceIte]
  unfold setAddByScan
  refine wpAny_bind (wpAny_bind (wpAny_rule (wpAny_bind (wpAny_setScan_of isk ho hd T.ft el ?_))))
  cases fi : List.findIdx? (fun e => (mixKind P w).is k e.2) es.toList with
  | some j =>
    dsimp only
    obtain ⟨hj, pj, _⟩ := List.findIdx?_eq_some_iff_getElem.mp fi
    have kin : k ∈ l := (T.has k).2 ⟨es.toList[j], List.getElem_mem hj, pj⟩
    refine wpAny_pure (wpAny_pure (hQ _ s.heap (Heap.SameBut.refl a s.heap) ?_))
    rw [addK_in kin]
    exact ⟨nd, o, es, ep, t, ho, hx, hd, T⟩
  | none =>
    dsimp only
    have kout : k ∉ l := fun z => by
      obtain ⟨e, m, q⟩ := (T.has k).1 z
      exact absurd (List.findIdx?_eq_none_iff.mp fi e m) (by rw [q]; exact Bool.noConfusion)
    have p1 := layNew_perm t es ((mixKind P w).hash k) u
    have f1 := layNew_fits t es ((mixKind P w).hash k) u
    have r1 := layNew_ris t es ((mixKind P w).hash k) u T.ri
    have l1 := layNew_led t es ((mixKind P w).hash k) u
    generalize layNew t es ((mixKind P w).hash k) u = Y at p1 f1 r1 l1 ⊢
    obtain ⟨es1, t1, dm, gv⟩ := Y
    dsimp only at p1 f1 r1 l1 ⊢
    rw [Array.toList_push] at p1
    have pc : es1.toList.Perm (es.toList ++ [((mixKind P w).hash k, u)]) := p1
    have pk : (es1.toList.map kE).Perm (l ++ [k]) := by
      refine (pc.map kE).trans ?_
      rw [List.map_append, List.map_cons, List.map_nil, show kE ((mixKind P w).hash k, u) = k from kOf_rel ru]
      exact T.pm.append_right [k]
    have g1 : ∀ e ∈ es1.toList, Gd P w e := fun e m => by
      rcases List.mem_append.mp (pc.mem_iff.mp m) with z | z
      · exact T.gd e z
      · rw [List.mem_singleton.mp z]; exact ⟨k, ru, rfl⟩
    have n1 : es1.size < scanBound := by
      have q := pk.length_eq
      rw [List.length_map, Array.length_toList, List.length_append, List.length_singleton] at q
      omega
    have ld1 : ByText w = true ∨ t1.led = true := T.ld.imp id fun z => by rw [l1]; exact z
    have nd1 : (l ++ [k]).Nodup := by
      have z := addK_nodup (k := k) nd
      rwa [addK_out kout] at z
    have fin : ∀ h2, Heap.SameBut a s.heap h2 → SetM P w h2 a (l ++ [k]) → Q true { s with heap := h2 } := fun h2 b2 r2 => hQ true h2 b2 (by rw [addK_out kout]; exact r2)
    have T1 : TabM P w es1 t1 (l ++ [k]) := ⟨g1, pk, n1, f1, r1, ld1⟩
    have gw : ∀ (b : Bool) (s2 : Shared) (R : Unit → Shared → Prop), R () s2 → wpAny (model P w) A (match b with | true => rule "set.scan.the-table-gave-way" | false => pure ()) R E s2 := fun b s2 R q => by
      cases b
      · exact wpAny_pure q
      · exact wpAny_rule q
    refine wpAny_bind (gw _ _ _ ?_)
    split
    · refine wpAny_bind ?_
      rw [hashByValue_scannable 8 sc]
      refine wpAny_pure ?_
      refine setM_tail gw ho hx hd nd1 (t2 := _) ⟨g1, pk, n1, ?_, ?_, ?_⟩ (fun h2 b2 r2 => ?_)
      · first | (split <;> first | exact f1 | exact SetTable.fits_plain_off f1) | exact f1
      · first | (split <;> exact r1) | exact r1
      · first | (split <;> exact ld1) | exact ld1
      · dsimp only; exact wpAny_pure (fin h2 b2 r2)
    · refine wpAny_bind (wpAny_pure ?_)
      simp only [↓reduceIte]
      refine setM_tail gw ho hx hd nd1 T1 (fun h2 b2 r2 => ?_)
      dsimp only; exact wpAny_pure (fin h2 b2 r2)
theorem setM_addV {k : Key} {u : Value} (ru : RelV (kV k) u) {Q : Bool → Shared → Prop} (R : SetM P w s.heap a l) (room : l.length + 1 < scanBound)
    (hQ : ∀ b h2, Heap.SameBut a s.heap h2 → SetM P w h2 a (addK l k) → Q b { s with heap := h2, toks := s.toks + 1 }) : wpAny (model P w) A (setAdd a u) Q E s := by
  unfold setAdd
  exact wpAny_holding (wpAny_bind ((mixKind P w).pyHash (kV_is ru) (setM_hashed (s := { s with toks := s.toks + 1 }) ru R room fun b h2 b2 r2 => hQ b h2 b2 r2)))
theorem setM_add {k : Key} {u : Value} (ru : RelV (kV k) u) {Q : Value → Shared → Prop} (R : SetM P w s.heap a l) (room : l.length + 1 < scanBound)
    (hQ : ∀ h2, Heap.SameBut a s.heap h2 → SetM P w h2 a (addK l k) → Q .none { s with heap := h2, toks := s.toks + 1 }) : wpAny (model P w) A (call (.builtin "set.add") [.ref a, u]) Q E s := by
  refine wpAny_call_entry F.slot_set_add R.of.typeIs F.entry_set_add ?_ (F.args_set_add_2 _ _)
  unfold Builtin.«set.add» Builtin.Frozenset.oneOther
  simp only [List.isEmpty_nil, bind_assoc]
  unfold Builtin.Frozenset.addrOf
  refine wpAny_bind (wpAny_pure ?_)
  try dsimp only
  refine wpAny_bind (wpAny_pure ?_)
  try dsimp only
  refine wpAny_bind (setM_addV ru R room fun b h2 b2 r2 => ?_)
  show wpAny _ _ (ret Value.none) _ _ _
  exact wpAny_pure ⟨_, rfl, hQ h2 b2 r2⟩
theorem setM_bare {h : Heap} : SetM P w (h.push (bareSet w)) h.objs.size [] := ⟨List.nodup_nil, _, #[], 0, _, Heap.get?_push_size _ rfl, ⟨rfl, rfl, rfl⟩, rfl, ⟨fun e m => by simp at m, by simp, by decide, rfl, List.Pairwise.nil, by
  show _ ∨ (!ByText w) = true
  cases ByText w <;> simp⟩⟩
end
end DL
end

section
set_option Elab.async false
set_option linter.all false
set_option maxRecDepth 100000
set_option maxHeartbeats 4000000
namespace DL
open PySem PySem.Spec PyProof.Rows L2
/-! ### such sets as tracked things -/
def SetMO (P : Program) (w : World) (a : Addr) (l : List Key) : HO := .ext fun h => SetM P w h a l
theorem setMO_new {P : Program} {w : World} {H : Hp} {h : Heap} {a : Addr} {l : List Key} (R : SetM P w h a l) : ObjOk P w H h a (SetMO P w a l) :=
  have ⟨_, o, _, _, _, ho, _⟩ := R
  ⟨R, ⟨o, ho⟩, fun _ _ p k => SetM.at p k⟩
section
variable {X : Cx} {pins : List (Addr × Obj)} {σ : L2.St} {H : Hp} {s : Shared} {a : Addr} {l : List Key}
theorem setMO_get (I : Inv X pins σ H s) (e : H a = some (SetMO X.prog X.w a l)) : SetM X.prog X.w s.heap a l := (I.hok a _ e).1
theorem setMO_add {A : Around} {E : Value → Shared → Prop} {k : Key} {u : Value} {Q : Value → Shared → Prop} (I : Inv X pins σ H s) (e : H a = some (SetMO X.prog X.w a l)) (ru : RelV (kV k) u) (room : l.length + 1 < scanBound)
    (h : ∀ s2, Inv X pins σ (upd H a (SetMO X.prog X.w a (addK l k))) s2 → Q .none s2) : wpAny (model X.prog X.w) A (call (.builtin "set.add") [.ref a, u]) Q E s :=
  setM_add ru (setMO_get I e) room fun h2 b2 r2 => by
    have ⟨_, o, _, _, _, ho, _⟩ := r2
    exact h _ (I.write (e := a) (t' := s.toks + 1) (by rw [e]; trivial) (.inl rfl) (fun b u hb hu => (b2.2 b hb).trans hu) ⟨o, ho⟩ (setMO_new r2))
end
/-! ### set comprehensions of keys -/
section
variable {X : Cx}
/-- {elt for tg in iter if ..}, elt an int or a text -/
def tSM (P : Program) (w : World) (wi : TI) (g : TG) (tt : TT) (te : TE) (vs : List Nat) : TE := fun σ H Q => wi σ H fun J H1 => ∀ D, H1 D = none → ∃ W : Nat → Nat → Hp → Prop, (∃ m, W 0 m (upd H1 D (SetMO P w D []))) ∧ ∀ i m H, W i m H →
  (J.stop i H ∧ Q (.ref D) H) ∨ (J.go i H ∧ ∃ Nx : Hp → Prop, (∀ H2, Nx H2 → ∃ m2, m2 < m ∧ W (i + 1) m2 H2) ∧ ∀ x H2, J.yld i H x H2 → g x (wipe σ vs) H2 fun σ2 H2 => wipe σ2 vs = wipe σ vs ∧ tt σ2 H2 fun b H3 =>
    if b = true then te σ2 H3 fun y H4 => ∃ (k : Key) (l : List Key), y = kV k ∧ H4 D = some (SetMO P w D l) ∧ l.length + 1 < scanBound ∧ Nx (upd H4 D (SetMO P w D (addK l k))) else Nx H3)
abbrev BX (X : Cx) (sc : Scope) (q : Shared) (G : Hp) (C : Addr) (cl : List (Str × Addr)) (fp : List Addr) : Cx := X.blk q G sc (compEnvC sc cl C X.env) fp
theorem pe_sM {elt tg iter : Expr} {ifs : List Expr} {sc : Scope} {own : List (Str × Nat)} {pos : Pos} {wi : TI} {g : TG} {tt : TT} {te : TE} (hc : X.calm = true) (hN : X.N.Nodup) (hi : PI X tg iter wi) (ok : BlkOk X.N X.env.scope sc own)
    (hg : ∀ q G C cl fp, PG (BX X sc q G C cl fp) tg g) (ht : ∀ q G C cl fp, PTs (BX X sc q G C cl fp) ifs tt) (he : ∀ q G C cl fp, PE (BX X sc q G C cl fp) elt te) (hs : ∀ x, foldedSetIterable iter X.env x = pure x) :
    PE X (.SetComp elt [⟨tg, iter, ifs, 0⟩] sc pos) (tSM X.prog X.w wi g tt te (own.map (·.2))) := by
  refine ⟨fun pins s σ H Q I h => ?_⟩
  rw [PpSet.eval_SetComp]
  have cells : ∀ y ∈ sc.names, y.2 = .free → ∃ c, X.env.cells.lookup y.1 = some c := fun y hy e => (ok.free y hy e).elim (fun k => I.ok.has _ (.inl k)) fun k => I.ok.has _ (.inr k)
  refine wpAny_comprehension_free rfl hs (closure_ok cells) ok.kind (fun y hy e => by rw [ok.uniq y hy, e]) (thn (hi.run pins s σ H _ I h) fun xv s1 hx => thn hx fun itv s2 h2 => ?_)
  obtain ⟨it, fp, tn, J, H2, rfl, I2, T, st2, f2, q⟩ := h2
  refine PpSet.newSet_ok (newEnv_comp ?_)
  obtain ⟨D, hD⟩ : ∃ D, D = s2.heap.objs.size := ⟨_, rfl⟩
  rw [← hD]
  obtain ⟨W, ⟨m0, w0⟩, turn⟩ := q D (I2.hok.fresh (Nat.le_of_eq hD.symm))
  obtain ⟨t3, ht3⟩ : ∃ t3 : Shared, t3 = { s2 with heap := s2.heap.push (bareSet X.w) } := ⟨_, rfl⟩
  have hp3 : t3.heap = s2.heap.push (bareSet X.w) := by rw [ht3]
  obtain ⟨G3, hG3⟩ : ∃ G3 : Hp, G3 = upd H2 D (SetMO X.prog X.w D []) := ⟨_, rfl⟩
  have I3 : Inv X pins σ G3 t3 := by
    rw [ht3, hG3]
    refine I2.laid (t' := s2.toks) (fun b o e => Heap.get?_push_of_some _ e) (Nat.le_of_eq hD.symm) ?_
    rw [hD]
    exact setMO_new setM_bare
  have lt2 : ∀ b ∈ fp, b < s2.heap.objs.size := fun b hb => let ⟨_, e, _⟩ := T.obj _ _ st2 b hb; Heap.lt_size e
  have f3 : ∀ b ∈ fp, FpOk X pins G3 b ∧ b < t3.heap.objs.size := fun b hb => by
    refine ⟨⟨?_, (f2 b hb).2⟩, by rw [hp3, Heap.size_push]; exact Nat.lt_succ_of_lt (lt2 b hb)⟩
    rw [hG3, upd_ne (by rw [hD]; exact Nat.ne_of_lt (lt2 b hb))]
    exact (f2 b hb).1
  have st3 : tn 0 t3.heap := T.keep _ _ _ st2 fun b _ o e => by rw [hp3]; exact Heap.get?_push_of_some _ e
  have I4 := block_start I3 ok hN f3
  rw [← hG3] at w0
  change codeAny _ _ (.compStart (.SetComp elt [⟨tg, iter, ifs, 0⟩] sc pos) 0 (.ref it) (.ref D) (compEnvC sc (cellsFrom (({ s2 with heap := s2.heap.push (bareSet X.w) } : Shared).heap.objs.size + 1) sc.names (cloFrom X.env.cells sc.names [])) ({ s2 with heap := s2.heap.push (bareSet X.w) } : Shared).heap.objs.size X.env)) (compPost (model X.prog X.w) X.A X.xe none _ (.ref D) ({ s2 with heap := s2.heap.push (bareSet X.w) } : Shared).heap.objs.size) { ({ s2 with heap := s2.heap.push (bareSet X.w) } : Shared) with heap := pushCells (({ s2 with heap := s2.heap.push (bareSet X.w) } : Shared).heap.push { cls := .type "dict", data := .dict #[] }) sc.names }
  rw [← ht3]
  obtain ⟨cl, hcl⟩ : ∃ cl, cl = cellsFrom (t3.heap.objs.size + 1) sc.names (cloFrom X.env.cells sc.names []) := ⟨_, rfl⟩
  rw [← hcl] at I4 ⊢
  obtain ⟨C, hC⟩ : ∃ C, C = t3.heap.objs.size := ⟨_, rfl⟩
  rw [← hC] at I4 ⊢
  obtain ⟨t4, ht4⟩ : ∃ t4 : Shared, t4 = { t3 with heap := pushCells (t3.heap.push { cls := .type "dict", data := .dict #[] }) sc.names } := ⟨_, rfl⟩
  rw [← ht4] at I4 ⊢
  have st4 : tn 0 t4.heap := T.keep _ _ _ st3 fun b _ o e => by rw [ht4]; exact pushCells_keeps _ _ _ _ (Heap.get?_push_of_some _ e)
  have fpk : ∀ {σ9 : L2.St} {H9 : Hp} {s9 : Shared}, Inv (BX X sc t3 G3 C cl fp) [] σ9 H9 s9 → (∀ b ∈ fp, H9 b = none) → ∀ b ∈ fp, FpOk (BX X sc t3 G3 C cl fp) [] H9 b := fun {σ9 H9 s9} J9 hn b hb =>
    ⟨hn b hb, (J9.ok.exf b hb).1, J9.ok.exfs b hb, .inl hb, fun x c e => (J9.ok.exf b hb).2 x c e, fun p hp => absurd (show p ∈ ([] : List (Addr × Obj)) ++ [] from hp) (by simp)⟩
  have loop : codeAny (model X.prog X.w) X.A (.compLoop (.SetComp elt [⟨tg, iter, ifs, 0⟩] sc pos) 0 (.ref it) (.ref D) (compEnvC sc cl C X.env)) (compPost (model X.prog X.w) X.A X.xe none (EP X pins σ Q) (.ref D) C) t4 := by
    refine PpSet.compLoopS_any (fun n s9 => ∃ i H9, Inv (BX X sc t3 G3 C cl fp) [] (wipe σ (own.map (·.2))) H9 s9 ∧ tn i s9.heap ∧ (∀ b ∈ fp, H9 b = none) ∧ W i n H9) ?_ m0 ⟨0, G3, I4, st4, fun b hb => (f3 b hb).1.1, w0⟩
    rintro n s5 ⟨i, H5, I5, st5, n5, w5⟩
    rcases turn i n H5 w5 with ⟨stop, qq⟩ | ⟨go, Nx, hNx, step⟩
    · refine thnF (T.done (BX X sc t3 G3 C cl fp) rfl rfl rfl hc i [] s5 _ H5 (fun _ _ => False) I5 (fpk I5 n5) st5 stop) fun r s6 ⟨hr, I6⟩ => ?_
      subst hr
      have I7 : Inv X pins σ H5 s6 := I3.call' (ch := fp) I6.os I6.base I6.hok I6.bare fun b hb => let z := (f3 b hb).1; ⟨z.2.2.2.1, z.2.1, z.2.2.2.2.1, z.2.2.2.2.2⟩
      have nC : H5 C = none := I6.free
      obtain ⟨m, hn, _⟩ := I6.loc
      have hn : s6.heap.Ns C m := hn
      obtain ⟨_, k1, k2, k3, k4, k5⟩ : FpOk X pins H5 C := by
        rw [hC] at nC ⊢
        exact I3.fpOk (Nat.le_refl _) nC
      exact ⟨m, hn, fun h9 sb => ⟨.ref D, H5, I7.turned (t' := s6.toks) (fun b o hb e => (sb.2 b hb).trans e) nC k1 k3 k4 k5, rfl, qq⟩⟩
    · refine thnF (T.item (BX X sc t3 G3 C cl fp) rfl rfl rfl hc i [] s5 _ H5 (fun _ _ => False) I5 (fpk I5 n5) st5 go) fun r s6 ⟨u, hr, h6⟩ => ?_
      subst hr
      refine thnF h6 fun _ s7 ⟨x, H7, I7, r7, y7, st7, n7⟩ => ?_
      have I7p := I7.pinned (fpk I7 n7) (T.obj _ _ st7)
      refine thnF ((hg t3 G3 C cl fp).run _ s7 _ H7 x u _ I7p r7 (step x H7 y7)) fun _ s8 ⟨σ8, H8, I8, w8, q8⟩ => ?_
      refine thnF ((ht t3 G3 C cl fp).run _ s8 σ8 H8 _ I8 q8) fun b s9 ⟨H9, I9, q9⟩ => ?_
      have fin : ∀ {z : Shared} {Z : Hp}, Inv (BX X sc t3 G3 C cl fp) ([] ++ pinsAt fp s7.heap) σ8 Z z → Nx Z → ∃ m, m < n ∧ ∃ i Z, Inv (BX X sc t3 G3 C cl fp) [] (wipe σ (own.map (·.2))) Z z ∧ tn i z.heap ∧ (∀ b ∈ fp, Z b = none) ∧ W i m Z := fun {z Z} Iz nx => by
        obtain ⟨m2, hm, w2⟩ := hNx Z nx
        have pin : ∀ b ∈ fp, ∀ o, s7.heap.get? b = some o → z.heap.get? b = some o ∧ Z b = none := fun b hb o e =>
          let y := Iz.pin (b, o) (List.mem_append_right _ (List.mem_append_right _ (mem_pinsAt hb e)))
          ⟨y.1, y.2.1⟩
        refine ⟨m2, hm, i + 1, Z, (Iz.unpinned (pins := [])).weak (by rw [← w8, wipe_length]) (fun j v e => ?_), T.keep _ _ _ st7 fun b hb o e => (pin b hb o e).1, fun b hb => ?_, w2⟩
        · rw [← w8] at e
          exact (wipe_some e).1
        · obtain ⟨o, e, _⟩ := T.obj _ _ st7 b hb
          exact (pin b hb o e).2
      cases b with
      | false =>
        simp only [Bool.false_eq_true, if_false] at q9 ⊢
        exact fin I9 q9
      | true =>
        simp only [if_true] at q9 ⊢
        refine thnF ((he t3 G3 C cl fp).run _ s9 σ8 H9 _ I9 q9) fun z s10 ⟨yv, H10, I10, r10, k, l, ey, hD10, rm, nx⟩ => ?_
        subst ey
        exact setMO_add (X := BX X sc t3 G3 C cl fp) I10 hD10 r10 rm fun s11 I11 => fin I11 nx
  exact PpSet.codeAny_compStart_set loop (T.self X.A 0 _ _ _ st4 loop)
end
end DL
end

section
set_option Elab.async false
set_option linter.all false
set_option maxRecDepth 100000
set_option maxHeartbeats 4000000
namespace DL
open PySem PySem.Spec PyProof.Rows L2
/-! ### set(xs) -/
def dedK (ks : List Key) : List Key := ks.foldl addK []
theorem dedK_snoc (ks : List Key) (k : Key) : dedK (ks ++ [k]) = addK (dedK ks) k := by
  unfold dedK
  rw [List.foldl_append]
  rfl
theorem addK_len (l : List Key) (k : Key) : (addK l k).length ≤ l.length + 1 := by
  unfold addK
  split <;> simp
theorem foldK_nodup : ∀ (ks l : List Key), l.Nodup → (ks.foldl addK l).Nodup
  | [], _, h => h
  | k :: ks, _, h => foldK_nodup ks _ (addK_nodup h)
theorem dedK_nodup (ks : List Key) : (dedK ks).Nodup := foldK_nodup ks [] List.nodup_nil
theorem mem_foldK {j : Key} : ∀ (ks l : List Key), j ∈ ks.foldl addK l ↔ j ∈ l ∨ j ∈ ks
  | [], l => by simp
  | k :: ks, l => by
    show j ∈ ks.foldl addK (addK l k) ↔ _
    rw [mem_foldK ks, mem_addK, List.mem_cons, or_assoc]
theorem mem_dedK {ks : List Key} {j : Key} : j ∈ dedK ks ↔ j ∈ ks := by
  unfold dedK
  rw [mem_foldK]
  simp
theorem foldK_len : ∀ (ks l : List Key), (ks.foldl addK l).length ≤ l.length + ks.length
  | [], l => Nat.le_refl _
  | k :: ks, l => by
    have h1 := foldK_len ks (addK l k)
    have h2 := addK_len l k
    show (ks.foldl addK (addK l k)).length ≤ l.length + (ks.length + 1)
    omega
theorem dedK_len (ks : List Key) : (dedK ks).length ≤ ks.length := by
  have := foldK_len ks []
  simpa [dedK] using this
section
variable {P : Program} {w : World} {A : Around} {E : Value → Shared → Prop} {s : Shared}
theorem upd_loop {R : Result → Shared → Prop} {I : Addr} {fp wr : List Addr} {G : Array GenState → Array GenState → Prop} {n : Nat} {Y : Nat → Value → Prop} {St : Nat → Shared → Prop} (W : WalksS P w A.in1 I fp wr G n Y St) (a : Addr) (ha : a ∉ fp) (ks : List Key) (hn : n = ks.length)
    (hY : ∀ i v, Y i v → ∃ k, ks[i]? = some k ∧ RelV (kV k) v) (hb : n + 1 < scanBound) : ∀ (j i : Nat) (s : Shared), n - i = j → i ≤ n → St i s → SetM P w s.heap a (dedK (ks.take i)) →
      (∀ s2, Moved (a :: wr) G s s2 → SetM P w s2.heap a (dedK ks) → R (.ok (.ret .none)) s2) → codeAny (model P w) A (.builtin "set.update.loop" ⟨[.ref a, .ref I], []⟩) R s := by
  have aw : a ∉ wr := fun z => ha (W.sub _ z)
  have up : ∀ b ∈ wr, b ∈ a :: wr := fun b m => List.mem_cons_of_mem _ m
  intro j
  induction j with
  | zero =>
    intro i s hj hi st hS hR
    refine codeAny_builtin F.entry_set_update_loop ?_
    rw [Around.under_plainId F.plain_set_update_loop _]
    show wpAny _ A.in1 (pyNext (.ref I) >>= _) _ _ s
    have e : i = n := by omega
    subst e
    refine wpAny_bind (W.done s _ _ st fun s2 mv => ?_)
    show wpAny _ A.in1 (ret Value.none) _ _ s2
    refine wpAny_pure (hR s2 (mv.mono up) ?_)
    rw [hn, List.take_length] at hS
    exact hS.at fun o e => mv.heap a o aw e
  | succ j ih =>
    intro i s hj hi st hS hR
    have lt : i < n := by omega
    refine codeAny_builtin F.entry_set_update_loop ?_
    rw [Around.under_plainId F.plain_set_update_loop _]
    show wpAny _ A.in1 (pyNext (.ref I) >>= _) _ _ s
    refine wpAny_bind (W.item i s _ _ lt st fun v s2 hv st2 mv => ?_)
    obtain ⟨k, hk, rv⟩ := hY i v hv
    show wpAny _ A.in1 (holding [v] (setAdd a v) >>= _) _ _ s2
    have e1 : ks.take (i + 1) = ks.take i ++ [k] := by rw [List.take_succ, hk]; rfl
    have room : (dedK (ks.take i)).length + 1 < scanBound := by
      have := dedK_len (ks.take i)
      rw [List.length_take] at this
      omega
    refine wpAny_bind (wpAny_holding (setM_addV rv (hS.at fun o e => mv.heap a o aw e) room fun b h3 b3 r3 => ?_))
    refine wpAny_pure ⟨plainId_quiet F.plain_set_update_loop _, ih (i + 1) _ (by omega) lt (W.frame _ s2 _ _ st2 (Nat.le_succ _) fun b m o e => ?_) ?_ fun s4 mv4 hS4 => hR s4 (Moved.trans W.gtrans ((mv.mono up).then_heap (Nat.le_succ _) fun b o m e => ?_) mv4) hS4⟩
    · rw [b3.2 b fun z => ha (z ▸ m)]; exact e
    · rw [e1, dedK_snoc]; exact r3
    · rw [b3.2 b fun z => m (by rw [z]; exact List.mem_cons_self)]; exact e
theorem set_newM (v : Value) {Q : Value → Shared → Prop} (h : Q (.ref s.heap.objs.size) { s with heap := s.heap.push (bareSet w) }) : codeAny (model P w) A (.call (.builtin "set.__new__") ⟨[.type "set", v], []⟩) (wants Q E) s := by
  refine codeAny_of_tree ?_
  show wpAny _ A.in1 (do checkBuiltinCall "set.__new__" ⟨[.type "set", v], []⟩; again (.builtin "set.__new__" ⟨[.type "set", v], []⟩)) _ _ s
  refine wpAny_bind (wpAny_of_eq (F.newCall_set_1 v) (wpAny_pure ⟨plainId_quiet F.plain_set_new _, codeAny_builtin F.entry_set_new ?_⟩))
  rw [Around.under_plainId F.plain_set_new _]
  unfold Builtin.«set.__new__» Builtin.Frozenset.newClass
  have kids := sub_set_self
  obtain ⟨hp, gg, dd, tk, os⟩ := s
  dsimp only
  wp_walk
  refine wpAny_askSetting (wpAny_pure ?_)
  dsimp only
  simp only [newObj]
  exact wpAny_bind (wpAny_alloc (wpAny_pure (wpAny_pure h)))
theorem tup_notSet : isSubtype (.type "tuple") (.type "set") = pure false := by rw [isSubtype_type]; kernel_rfl
theorem tup_notFro : isSubtype (.type "tuple") (.type "frozenset") = pure false := by rw [isSubtype_type]; kernel_rfl
theorem vals_keyAt : ∀ {ks : List Key} {us : List Value} {i : Nat} {v : Value}, Vals (ks.map kV) us → us[i]? = some v → ∃ k, ks[i]? = some k ∧ RelV (kV k) v
  | [], _, i, v, r, e => by cases r; simp at e
  | k :: ks, _, 0, v, r, e => by
    cases r with
    | cons r rr => simp at e; subst e; exact ⟨k, rfl, r⟩
  | k :: ks, _, i + 1, v, r, e => by
    cases r with
    | cons r rr =>
      obtain ⟨j, h1, h2⟩ := vals_keyAt (i := i) rr (by simpa using e)
      exact ⟨j, by simpa using h1, h2⟩
/-- set(t), t a list or a tuple of keys -/
theorem call_setM {t : Addr} {T : String} {its : Array Value} {ks : List Key} {Q : Value → Shared → Prop} (hT : T = "list" ∨ T = "tuple") (hh : A.handled = none) (ht : ∃ o, s.heap.get? t = some o ∧ o.cls = .type T ∧ ∃ n, o.data = .seq its n) (rv : Vals (ks.map kV) its.toList) (hb : its.size + 1 < scanBound)
    (h : ∀ (h2 : Heap) (tk : Nat), SetM P w h2 s.heap.objs.size (dedK ks) → (∀ b o, s.heap.get? b = some o → h2.get? b = some o) → Q (.ref s.heap.objs.size) { s with heap := h2, toks := tk }) :
    wpAny (model P w) A (call (.type "set") [.ref t]) Q E s := by
  obtain ⟨c, tl, mro⟩ := F.called_set.mro
  have made := F.called_set.made
  have kids := F.called_set.sub
  refine wpAny_call (codeAny_of_tree ?_)
  show wpAny _ _ (callAny (.type "set") _) _ _ _
  refine wpAny_pure ⟨Code.quiet_builtin _ (by decide +kernel), codeAny_builtin F.entry_type_call ?_⟩
  rw [Around.under_plain (weight_type_call_type "set" [.ref t] []) rfl]
  have c1 := F.called_set.notType
  have c2 := F.called_set.canCreate
  have c3 := F.typeCall_set_1 (.ref t)
  repeat (any_goals (first | assumption | wp_step))
  refine codeAny_mono (set_newM (.ref t) (E := E) (Q := fun ob s2 => ob = .ref s.heap.objs.size ∧ s2 = { s with heap := s.heap.push (bareSet w) }) ⟨rfl, rfl⟩) fun r s2 hr => ?_
  cases r with
  | error e => exact hr
  | ok fl =>
    cases fl with
    | ret ob =>
      obtain ⟨rfl, rfl⟩ := hr
      have h0 : (s.heap.push (bareSet w)).get? s.heap.objs.size = some (bareSet w) := Heap.get?_push_size _ rfl
      have ty : Shared.TypeIs { s with heap := s.heap.push (bareSet w) } (.ref s.heap.objs.size) "set" := ⟨_, h0, rfl⟩
      have c4 := F.called_set.init.lookup
      have c5 := F.called_set.init.bind (.ref s.heap.objs.size)
      repeat (any_goals (first | assumption | wp_step))
      refine codeAny_mono (codeAny_call_builtin (R := wants (fun r s3 => r = .none ∧ ∃ h2 tk, s3 = { s with heap := h2, toks := tk } ∧ SetM P w h2 s.heap.objs.size (dedK ks) ∧ (∀ b o, s.heap.get? b = some o → h2.get? b = some o)) E) F.called_set.init.plain F.entry_set_init (check_set_init_1 ty ?_)) fun r2 s2 hr2 => ?_
      · obtain ⟨o, ho, hc, n, hd⟩ := ht
        have ho2 : (s.heap.push (bareSet w)).get? t = some o := Heap.get?_push_of_some _ ho
        have tS : t < s.heap.objs.size := Heap.lt_size ho
        have hsz : (s.heap.push (bareSet w)).objs.size = s.heap.objs.size + 1 := Heap.size_push ..
        have hh3 : A.in1.in1.in1.handled = none := by simp [hh]
        have nI : t ≠ (s.heap.push (bareSet w)).objs.size := by rw [hsz]; exact Nat.ne_of_lt (Nat.lt_succ_of_lt tS)
        have nS : s.heap.objs.size ∉ [(s.heap.push (bareSet w)).objs.size, t] := by
          rw [hsz]
          simp only [List.mem_cons, List.not_mem_nil, or_false, not_or]
          exact ⟨Nat.ne_of_lt (Nat.lt_succ_self _), Nat.ne_of_gt tS⟩
        have hn : its.size = ks.length := by
          have := rv.length
          rw [List.length_map, Array.length_toList] at this
          exact this.symm
        have hY : ∀ (i : Nat) (v : Value), its[i]? = some v → ∃ k, ks[i]? = some k ∧ RelV (kV k) v := fun i v e => vals_keyAt rv (by rw [Array.getElem?_toList]; exact e)
        have fin : ∀ {o2 : Obj} (s3 : Shared), Moved (s.heap.objs.size :: [(s.heap.push (bareSet w)).objs.size]) (fun a b => b = a) { s with heap := (s.heap.push (bareSet w)).push o2 } s3 → SetM P w s3.heap s.heap.objs.size (dedK ks) →
            ∃ h2 tk, s3 = { s with heap := h2, toks := tk } ∧ SetM P w h2 s.heap.objs.size (dedK ks) ∧ ∀ b o, s.heap.get? b = some o → h2.get? b = some o := fun {o2} s3 mv r3 => by
          obtain ⟨h2, g2, d2, k2, os2⟩ := s3
          have eg : g2 = s.gens := mv.gens
          have ed : d2 = s.drawn := mv.drawn
          have eo : os2 = s.os := mv.os
          subst eg ed eo
          refine ⟨h2, k2, rfl, r3, fun b u e => mv.heap b u (fun z => ?_) (Heap.get?_push_of_some _ (Heap.get?_push_of_some _ e))⟩
          have lt := Heap.lt_size e
          rw [hsz] at z
          rcases List.mem_cons.mp z with z | z
          · exact Nat.lt_irrefl _ (z ▸ lt)
          · rw [List.mem_singleton.mp z] at lt
            exact absurd lt (Nat.not_lt.mpr (Nat.le_succ _))
        obtain ⟨ocls, odict, odata, oslots⟩ := o
        simp only at hc hd
        subst hc hd
        rcases hT with rfl | rfl
        · have k1 := F.sub_list_set
          have k2 := F.sub_list_frozenset
          have k3 : (Value.type "list" == Value.type "dict") = false := by decide
          have hl : (s.heap.push (bareSet w)).IsList t its := ⟨_, ho2, rfl, n, rfl⟩
          unfold Builtin.«set.__init__» noKeywords Builtin.Frozenset.updateFrom
          generalize hPI : pyIter = PI
          wp_walk
          subst hPI
          refine wpAny_pyIter_list hl ?_
          refine wpAny_bind (wpAny_runValue ?_)
          refine upd_loop ((Walks.list hh3 _ t nI its).toS) s.heap.objs.size nS ks hn hY hb (its.size - 0) 0 _ (by omega) (Nat.zero_le _) ⟨⟨_, Heap.get?_push_size _ rfl, rfl, rfl⟩, hl.push _⟩ (setM_bare.at fun o e => Heap.get?_push_of_some _ e) fun s3 mv r3 => ?_
          obtain ⟨h2, tk2, e3, q3⟩ := fin s3 mv r3
          show wpAny _ _ _ _ _ _
          refine wpAny_pure ?_
          show wpAny _ _ (ret Value.none) _ _ _
          exact wpAny_pure ⟨rfl, h2, tk2, e3, q3⟩
        · have k1 := tup_notSet
          have k2 := tup_notFro
          have k3 : (Value.type "tuple" == Value.type "dict") = false := by decide
          have hl : (s.heap.push (bareSet w)).IsTuple t its := ⟨_, ho2, rfl, n, rfl⟩
          unfold Builtin.«set.__init__» noKeywords Builtin.Frozenset.updateFrom
          generalize hPI : pyIter = PI
          wp_walk
          subst hPI
          refine wpAny_pyIter_tuple hl ?_
          refine wpAny_bind (wpAny_runValue ?_)
          refine upd_loop ((Walks.tuple hh3 _ t nI its).toS) s.heap.objs.size nS ks hn hY hb (its.size - 0) 0 _ (by omega) (Nat.zero_le _) ⟨⟨_, Heap.get?_push_size _ rfl, rfl, rfl⟩, hl.push _⟩ (setM_bare.at fun o e => Heap.get?_push_of_some _ e) fun s3 mv r3 => ?_
          obtain ⟨h2, tk2, e3, q3⟩ := fin s3 mv r3
          show wpAny _ _ _ _ _ _
          refine wpAny_pure ?_
          show wpAny _ _ (ret Value.none) _ _ _
          exact wpAny_pure ⟨rfl, h2, tk2, e3, q3⟩
      · cases r2 with
        | error e => exact hr2
        | ok f2 =>
          cases f2 with
          | ret r =>
            obtain ⟨rfl, h2, tk, rfl, r3, kk⟩ := hr2
            repeat (any_goals (first | assumption | wp_step))
            exact h _ _ r3 kk
          | _ => exact hr2.elim
    | _ => exact hr.elim
end
end DL
end

section
set_option Elab.async false
set_option linter.all false
set_option maxRecDepth 100000
set_option maxHeartbeats 4000000
namespace DL
open PySem PySem.Spec PyProof.Rows L2
/-! ### texts in their order -/
abbrev strLe (x y : Str) : Bool := decide (x.cps.toList ≤ y.cps.toList)
abbrev sortS (zs : List Str) : List Str := zs.mergeSort strLe
theorem strLe_tot (x y : Str) : (strLe x y || strLe y x) = true := by
  rcases List.le_total x.cps.toList y.cps.toList with h | h <;> simp [strLe, h]
theorem strLe_tr (x y z : Str) (h1 : strLe x y = true) (h2 : strLe y z = true) : strLe x z = true := by
  rw [decide_eq_true_eq] at h1 h2 ⊢
  exact List.le_trans h1 h2
theorem strLe_anti {x y : Str} (h1 : strLe x y = true) (h2 : strLe y x = true) : x = y := by
  rw [decide_eq_true_eq] at h1 h2
  exact PySem.W.str_of_cps (List.le_antisymm h1 h2)
theorem sortS_perm {xs ys : List Str} (p : xs.Perm ys) : sortS xs = sortS ys :=
  List.Perm.eq_of_pairwise (le := fun a b => strLe a b = true) (fun a b _ _ h1 h2 => strLe_anti h1 h2) (List.pairwise_mergeSort (fun a b c => strLe_tr a b c) strLe_tot xs) (List.pairwise_mergeSort (fun a b c => strLe_tr a b c) strLe_tot ys) (((List.mergeSort_perm xs _).trans p).trans (List.mergeSort_perm ys _).symm)
theorem sortD_str (zs : List Str) : sortD (zs.map D.str) = (sortS zs).map D.str := by
  refine (List.map_mergeSort (f := D.str) fun a _ b _ => ?_).symm
  show strLe a b = PySem.W.dataLe false pyD (.str a) (.str b)
  have e := congrFun (congrFun (PySem.W.dataLe_str (fun z : Str => z)) a) b
  exact e.symm
theorem sortOk_strs {u : Nat} (hu : u + 3 < cLine) (zs : List Str) : SortOk u (zs.map D.str) where
  ok := by simp [okD]
  al := by
    rw [List.map_map]
    exact PySem.W.AllAlike.of fun a b => rfl
  so := by
    rw [List.map_map]
    exact PySem.W.Sortable.others fun a => And.intro (by simp [pyD]) (by simp [pyD])
  un := fun d m => by
    obtain ⟨z, _, rfl⟩ := List.mem_map.mp m
    show u + 3 + PyData.depth (.str z) < cLine
    rw [PyData.depth]
    omega
section
variable {P : Program} {w : World} {A : Around} {E : Value → Shared → Prop} {s : Shared} {a : Addr} {l : List Key}
/-- sorted(set) up to the sort -/
theorem sorted_ofM {Q : Value → Shared → Prop} (hh : A.handled = none) (R : SetM P w s.heap a l) (hz : l.length ≤ sizeLine)
    (h : ∀ (s2 : Shared) (out : List Value) (ks : List Key), (∀ b u, s.heap.get? b = some u → s2.heap.get? b = some u) → s2.gens = s.gens → s2.os = s.os → ks.Perm l → Vals (ks.map kV) out →
      wpAny (model P w) A.in1 (call (.builtin "list.sort") [.ref s2.heap.objs.size]) (fun _ s3 => Q (.ref s2.heap.objs.size) s3) E { s2 with heap := s2.heap.push (seqObj "list" out.toArray 0) }) :
    wpAny (model P w) A (call (.builtin "sorted") [.ref a]) Q E s := by
  obtain ⟨nd, o, es, ep, t, ho, hx, hd, T⟩ := R
  refine Calls.call_function_entry kind_sorted plain_sorted entry_sorted (args_sorted1 _) ?_
  unfold Builtin.«sorted»
  refine wpAny_bind (m := checkCount "sorted" 1 1 _) (wpAny_pure ?_)
  refine wpAny_bind (collect_set (A := A.in1) hh ⟨o, ho, hx.1, hd⟩ T.ft T.sz T.ri T.ld fun s2 out kp _ hg hos pm => ?_)
  have each : ∀ v ∈ out, RelV (kV (kOf v)) v := fun v m => by
    obtain ⟨e, me, rfl⟩ := List.mem_map.mp (pm.mem_iff.mp m)
    obtain ⟨k, r, _⟩ := T.gd e me
    rw [kOf_rel r]; exact r
  have rv : Vals ((out.map kOf).map kV) out := by
    clear pm
    induction out with
    | nil => exact .nil
    | cons v vs ih => exact .cons (each v List.mem_cons_self) (ih fun u m => each u (List.mem_cons_of_mem _ m))
  have pk : (out.map kOf).Perm l := by
    have z := pm.map kOf
    rw [List.map_map] at z
    exact z.trans T.pm
  have hl : out.length = l.length := by rw [← pk.length_eq, List.length_map]
  refine wpAny_bind (wpAny_newList ?_ (by rw [hl]; exact hz))
  refine wpAny_bind (wpAny_holding (wpAny_mono (h s2 out _ kp hg hos pk rv) (fun _ s3 x => ?_) fun _ _ e => e))
  exact wpAny_pure ⟨_, rfl, x⟩
end
section
variable {X : Cx}
def rSortM (X : Cx) : List V → Hp → VK → Prop := fun vs H Q => ∃ a zs, vs = [.ref a] ∧ H a = some (SetMO X.prog X.w a (zs.map Sum.inr)) ∧ zs.length ≤ sizeLine ∧ ∀ p, H p = none → Q (.ref p) (upd H p (.lst ((sortS zs).map V.str)))
theorem repL_strs {K : PySem.W.Frag} {G : Hp} : ∀ {zs : List Str} {vs : List V}, RepL K G vs (zs.map D.str) → vs = zs.map V.str
  | [], _, .nil => rfl
  | z :: zs, _, .cons r t => by
    rw [rep_str r, repL_strs t]
    rfl
theorem of_inr : ∀ {ks : List Key} {zs : List Str}, ks.Perm (zs.map Sum.inr) → ∃ ys : List Str, ks = ys.map Sum.inr ∧ ys.Perm zs := fun {ks zs} p => by
  have all : ∀ k ∈ ks, ∃ y : Str, k = .inr y := fun k m => by
    obtain ⟨y, _, e⟩ := List.mem_map.mp (p.mem_iff.mp m)
    exact ⟨y, e.symm⟩
  have ex : ∃ ys : List Str, ks = ys.map Sum.inr := by
    clear p
    induction ks with
    | nil => exact ⟨[], rfl⟩
    | cons k ks ih =>
      obtain ⟨y, rfl⟩ := all k List.mem_cons_self
      obtain ⟨ys, rfl⟩ := ih fun j m => all j (List.mem_cons_of_mem _ m)
      exact ⟨y :: ys, rfl⟩
  obtain ⟨ys, rfl⟩ := ex
  refine ⟨ys, rfl, ?_⟩
  have q := p.map (fun k : Key => match k with | .inr y => y | .inl _ => (⟨#[]⟩ : Str))
  simpa [List.map_map, Function.comp_def] using q
theorem cr_sortM (hc : X.calm = true) (hu : X.A.units + 3 < cLine) : CallR X (.builtin "sorted") (rSortM X) := by
  intro pins s σ H vs us Q I r h
  obtain ⟨a, zs, rfl, ha, hz, q⟩ := h
  rw [Vals.ref1 r]
  refine sorted_ofM (I.ok.hd hc) (setMO_get I ha) (by rw [List.length_map]; exact hz) fun s2 out ks kp hg ho pk rv => ?_
  obtain ⟨ys, rfl, py⟩ := of_inr pk
  have I2 : Inv X pins σ H s2 := I.call' (ch := []) ho (Un.kept kp) (I.hok.kept kp) (by rw [hg]; exact I.bare) fun _ z => nomatch z
  have hob : (s2.heap.push (seqObj "list" out.toArray 0)).get? s2.heap.objs.size = some (seqObj "list" out.toArray 0) := Heap.get?_push_size _ rfl
  have rl : RepL X.K H ((ys.map (Sum.inr : Str → Key)).map kV) (ys.map D.str) := by
    have z := repL_kD (K := X.K) (G := H) (ys.map (Sum.inr : Str → Key))
    rwa [show (ys.map (Sum.inr : Str → Key)).map kD = ys.map D.str by rw [List.map_map]; rfl] at z
  have es := each_stands rl rv
  have so := sortOk_strs (u := X.A.units) (by omega) ys
  have er := each_reads I2 (Le.refl H) so.ok es
  have kq : ∀ (b : Addr) (u : Obj), s2.heap.get? b = some u → (s2.heap.push (seqObj "list" out.toArray 0)).get? b = some u := fun b u e => Heap.get?_push_of_some _ e
  refine PySem.W.list_sort_data (s := { s2 with heap := s2.heap.push (seqObj "list" out.toArray 0) }) (vs := out) (bs := ys.map D.str) (enc := pyD) (R := Stands X.K H) hob es ?_ so.al so.so (by rw [List.length_map, py.length_eq]; exact hz) (fun d m => by
    have := so.un d m
    show X.A.units + 1 + 1 + (pyD d).depth < cLine
    omega) fun o2 hl eo => ?_
  · exact er.mono fun v d ⟨as, r, lv⟩ => ⟨as, PyProof.Rows.Reads.keeps kq r, fun z => Nat.lt_irrefl _ (lv _ z)⟩
  · obtain ⟨vs2, r1, r2⟩ := stands_each eo
    have r1 : RepL X.K H vs2 ((sortS zs).map D.str) := by
      have z : RepL X.K H vs2 (sortD (ys.map D.str)) := r1
      rwa [sortD_str, sortS_perm py] at z
    have ev := repL_strs r1
    subst ev
    obtain ⟨eF, hF⟩ := PyProof.Rows.sortedHeap_at (vs := out) (out := o2.toArray) hob
    refine ⟨.ref s2.heap.objs.size, upd H s2.heap.objs.size (.lst ((sortS zs).map V.str)), I2.laid (a := s2.heap.objs.size) (o := .lst ((sortS zs).map V.str)) (t' := s2.toks) (fun b u e => ?_) (Nat.le_refl _) ⟨by rw [List.length_map, List.length_mergeSort]; exact hz, o2, eF, r2, hF⟩, rfl, q _ (I2.hok.fresh (Nat.le_refl _))⟩
    rw [PyProof.Rows.sortedHeap_old (Nat.ne_of_lt (Heap.lt_size e)) (Heap.lt_size (kq b u e))]
    exact kq b u e
/-- set(xs) -/
def rSetM (X : Cx) : List V → Hp → VK → Prop := fun vs H Q => ∃ a ks, vs = [.ref a] ∧ (SqL X.K H a (ks.map kV) ∨ SqT X.K H a (ks.map kV)) ∧ ks.length + 1 < scanBound ∧ ∀ p, H p = none → Q (.ref p) (upd H p (SetMO X.prog X.w p (dedK ks)))
theorem cr_setM (hc : X.calm = true) : CallR X (.type "set") (rSetM X) := by
  intro pins s σ H vs us Q I r h
  obtain ⟨a, ks, rfl, hq, hb, q⟩ := h
  rw [Vals.ref1 r]
  have fin : ∀ (h2 : Heap) (tk : Nat), SetM X.prog X.w h2 s.heap.objs.size (dedK ks) → (∀ b o, s.heap.get? b = some o → h2.get? b = some o) → EP X pins σ Q (.ref s.heap.objs.size) { s with heap := h2, toks := tk } := fun h2 tk R kp =>
    ⟨.ref s.heap.objs.size, upd H s.heap.objs.size (SetMO X.prog X.w s.heap.objs.size (dedK ks)), I.laid (a := s.heap.objs.size) (o := SetMO X.prog X.w s.heap.objs.size (dedK ks)) (t' := tk) kp (Nat.le_refl _) (setMO_new R), rfl, q _ (I.hok.fresh (Nat.le_refl _))⟩
  rcases hq with hq | hq
  · obtain ⟨its, rv, ⟨o, n, ho, hcl, _, hd⟩, hz⟩ := I.list hq
    have hl : its.length = ks.length := by rw [← rv.length, List.length_map]
    exact call_setM (.inl rfl) (I.ok.hd hc) ⟨o, ho, hcl, n, hd⟩ (by simpa using rv) (by rw [List.size_toArray, hl]; exact hb) fin
  · obtain ⟨its, rv, ⟨o, ho, hcl, n, hd⟩, hz⟩ := I.tuple hq
    have hl : its.length = ks.length := by rw [← rv.length, List.length_map]
    exact call_setM (.inr rfl) (I.ok.hd hc) ⟨o, ho, hcl, n, hd⟩ (by simpa using rv) (by rw [List.size_toArray, hl]; exact hb) fin
def rLenM (X : Cx) : List V → Hp → VK → Prop := fun vs H Q => ∃ a l, vs = [.ref a] ∧ H a = some (SetMO X.prog X.w a l) ∧ Q (.int l.length) H
theorem cr_lenM : CallR X (.builtin "len") (rLenM X) := by
  intro pins s σ H vs us Q I r h
  obtain ⟨a, l, rfl, ha, q⟩ := h
  rw [Vals.ref1 r]
  obtain ⟨_, o, es, ep, t, ho, hx, hd, T⟩ := setMO_get I ha
  have hb : es.size < 2 ^ 63 := Nat.lt_of_lt_of_le T.sz (by decide)
  have e : (es.size : Int) = (l.length : Int) := by rw [T.len]
  refine call_len_set ho hx hd T.ft (by omega) ⟨.int l.length, H, I.tok _, ⟨_, by rw [e]⟩, q⟩
end
section
variable {X : Cx} {F : Fc} {ρ : Rho} {M : Mem} {Q : S → Mem → Prop}
abbrev setC (X : Cx) (l : List Key) : C := .at fun a => SetMO X.prog X.w a l
theorem post_newC {K : PySem.W.Frag} {g g1 : Gh} {σ : L2.St} {H : Hp} {f : Addr → HO} (Z : Sim K F g1 ρ M σ H) (l : Gle g g1) (q : Q (.p M.length) (M ++ [.at f])) : ∀ p, H p = none → Post K F ρ σ g Q (.ref p) (upd H p (f p)) := fun p hp => by
  obtain ⟨Z2, L⟩ := Z.allocP (o := f p) (c := .at f) hp upd_same
  refine ⟨.p M.length, _, _, l.trans L, ⟨p, rfl, ?_⟩, Z2, q⟩
  show (g1.θ ++ [p])[M.length]? = some p
  rw [Z.ml, List.getElem?_append_right (Nat.le_refl _)]
  simp
theorem of_kDl {K : PySem.W.Frag} {G : Hp} : ∀ {ks : List Key} {vs : List V}, RepL K G vs (ks.map kD) → vs = ks.map kV
  | [], _, .nil => rfl
  | k :: ks, _, .cons h r => by rw [show _ = kV k from of_kD (g := ⟨G, []⟩) h, of_kDl r]; rfl
theorem cd_setM {s : S} {ks : List Key} (hc : X.calm = true) (hv : view M s = some (.lst (ks.map kD)) ∨ s = .d (.tup (ks.map kD))) (hb : ks.length + 1 < scanBound) (q : Q (.p M.length) (M ++ [setC X (dedK ks)])) : CD F X (.type "set") [s] ρ M Q := cd_of (cr_setM hc) fun g σ H us Z ru => by
  obtain ⟨a, xs, rfl, h1, h2⟩ := sorted_args Z hv ru
  rw [of_kDl h2] at h1
  exact ⟨a, ks, rfl, h1, hb, fun p hp => post_newC Z (Gle.refl g) q p hp⟩
theorem cd_lenM {n : Nat} {l : List Key} (e : M[n]? = some (setC X l)) (q : Q (.d (.int l.length)) M) : CD F X (.builtin "len") [.p n] ρ M Q := cd_of cr_lenM fun g σ H us Z ru => by
  obtain ⟨v, rfl, rv⟩ := ss1 ru
  obtain ⟨a, rfl, ea⟩ := rv
  exact ⟨a, l, rfl, Z.ob n _ a e ea, post_at Z rsI q⟩
theorem repL_ofStrs {K : PySem.W.Frag} {G : Hp} : ∀ zs : List Str, RepL K G (zs.map V.str) (zs.map D.str)
  | [] => .nil
  | z :: zs => .cons (.str z) (repL_ofStrs zs)
theorem cd_sortedM {n : Nat} {zs : List Str} (hc : X.calm = true) (hu : X.A.units + 3 < cLine) (hz : zs.length ≤ sizeLine) (e : M[n]? = some (setC X (zs.map Sum.inr))) (q : Q (.d (.lst ((sortS zs).map D.str))) M) : CD F X (.builtin "sorted") [.p n] ρ M Q := cd_of (cr_sortM hc hu) fun g σ H us Z ru => by
  obtain ⟨v, rfl, rv⟩ := ss1 ru
  obtain ⟨a, rfl, ea⟩ := rv
  exact ⟨a, zs, rfl, Z.ob n _ a e ea, hz, fun p hp => post_new Z (Gle.refl g) (repL_ofStrs _) q p hp⟩
theorem cd_sortedMP {n : Nat} {zs : List Str} (hc : X.calm = true) (hu : X.A.units + 3 < cLine) (hz : zs.length ≤ sizeLine) (e : M[n]? = some (setC X (zs.map Sum.inr))) (q : Q (.p M.length) (M ++ [.lst ((sortS zs).map fun z => S.d (.str z))])) : CD F X (.builtin "sorted") [.p n] ρ M Q := cd_of (cr_sortM hc hu) fun g σ H us Z ru => by
  obtain ⟨v, rfl, rv⟩ := ss1 ru
  obtain ⟨a, rfl, ea⟩ := rv
  have r : RepSs X.K g ((sortS zs).map V.str) ((sortS zs).map fun z => S.d (.str z)) := by
    have z := repL_S (K := X.K) (g := g) (repL_ofStrs (sortS zs))
    rwa [List.map_map] at z
  exact ⟨a, zs, rfl, Z.ob n _ a e ea, hz, fun p hp => post_newP Z (Gle.refl g) r q p hp⟩
end
end DL
end

section
set_option Elab.async false
set_option linter.all false
set_option maxRecDepth 100000
set_option maxHeartbeats 4000000
namespace DL
open PySem PySem.Spec PyProof.Rows L2
section
variable {X : Cx} {F : Fc} {ρ : Rho} {M : Mem} {Q : S → Mem → Prop} {QT : Bool → Mem → Prop} {N : DEnds} {e : Expr} {pos p : Pos} {x : Str}
theorem Sim.unwipe {K : PySem.W.Frag} {g g1 : Gh} {ρ1 : Rho} {σ σ1 : L2.St} {M1 : Mem} {H H1 : Hp} (Z : Sim K F g ρ M σ H) (Z1 : Sim K F g1 ρ1 M1 σ1 H1) (l : Gle g g1) : Sim K F g1 ρ M1 σ H1 :=
  ⟨Z1.sub, Z.ln, fun i t e => let ⟨v, h1, h2⟩ := Z.sl i t e; ⟨v, h1, h2.mono l⟩, Z1.ml, Z1.ob, Z1.nd, Z1.tr, Z1.go, Z1.pre, Z1.fr, Z1.own, Z1.gn, Z1.g0⟩
/-- one turn of a set comprehension -/
def ScTurn (F : Fc) (X : Cx) (scope : Scope) (ifs : List Expr) (elt : Expr) (ρ' : Rho) (m : Nat) (acc : List Key) (M1 : Mem) (yes : List Key → Mem → Prop) (no : Mem → Prop) : Prop :=
  ∀ s H' C cl fp, DTs F (Blk X scope s H' C cl fp) ifs ρ' (M1 ++ [setC X acc]) fun k M2 =>
    (k = true → ∀ s H' C cl fp, DE F (Blk X scope s H' C cl fp) elt ρ' M2 fun t M3 => ∃ y M4, t = kS y ∧ M3 = M4 ++ [setC X acc] ∧ M4.length = m ∧ acc.length + 1 < scanBound ∧ yes (addK acc y) M4) ∧
    (k = false → ∃ M4, M2 = M4 ++ [setC X acc] ∧ M4.length = m ∧ no M4)
def ScPv (X : Cx) (F : Fc) (g : Gh) (D0 : Addr) (ρ : Rho) (σ : L2.St) (m : Nat) (I : Nat → List Key → Mem → Prop) (i : Nat) (H : Hp) : Prop :=
  ∃ acc M1 G', Le g.G G' ∧ M1.length = m ∧ Sim X.K F ⟨G', g.θ ++ [D0]⟩ ρ (M1 ++ [setC X acc]) σ H ∧ I i acc M1
theorem sc_stepG {g : Gh} {ρw ρ' : Rho} {σw σ' : L2.St} {H : Hp} {D0 : Addr} {I : Nat → List Key → Mem → Prop} {k m : Nat} {scope : Scope} {ifs : List Expr} {elt : Expr} (hm : m = g.θ.length) (P : ScPv X F g D0 ρw σw m I k H)
    (hset : ∀ G' M H, Le g.G G' → Sim X.K F ⟨G', g.θ ++ [D0]⟩ ρw M σw H → Sim X.K F ⟨G', g.θ ++ [D0]⟩ ρ' M σ' H)
    (hwipe : ∀ G' M H, Sim X.K F ⟨G', g.θ ++ [D0]⟩ ρ' M σ' H → Sim X.K F ⟨G', g.θ ++ [D0]⟩ ρw M σw H)
    (ht : ∀ acc M1, I k acc M1 → M1.length = m → ScTurn F X scope ifs elt ρ' m acc M1 (fun acc' M4 => I (k + 1) acc' M4) (fun M4 => I (k + 1) acc M4)) :
    ttA X scope ifs σ' H fun bb H3 =>
      if bb = true then teA X scope elt σ' H3 fun y H4 => ∃ (k2 : Key) (l : List Key), y = kV k2 ∧ H4 D0 = some (SetMO X.prog X.w D0 l) ∧ l.length + 1 < scanBound ∧ ScPv X F g D0 ρw σw m I (k + 1) (upd H4 D0 (SetMO X.prog X.w D0 (addK l k2)))
      else ScPv X F g D0 ρw σw m I (k + 1) H3 := by
  obtain ⟨acc, M1, G', l, hl, Z1, q⟩ := P
  have Zs := hset _ _ _ l Z1
  intro s H' C' cl fp
  have key : ∀ {g4 : Gh} {M4 : Mem} {c : C}, Gle ⟨G', g.θ ++ [D0]⟩ g4 → (M4 ++ [c]).length = g4.θ.length → M4.length = m → g4.θ = g.θ ++ [D0] := fun {g4 M4 c} l4 h4 hl4 => by
    obtain ⟨t, et⟩ := l4.θ
    have : t = [] := by
      have e2 : g4.θ.length = m + 1 := by rw [← h4]; simp [hl4]
      rw [et] at e2
      simp at e2
      rw [← hm] at e2
      exact List.eq_nil_of_length_eq_zero (by omega)
    rw [et, this, List.append_nil]
  intro pins s1 I1
  refine thn ((ht acc M1 q hl s H' C' cl fp).run _ _ _ Zs pins s1 I1) fun bb s2 ⟨H3, I3, M2, g3, l3, Z3, q1, q2⟩ => ⟨H3, I3, ?_⟩
  cases bb with
  | false =>
    obtain ⟨M4, e4, hl4, q4⟩ := q2 rfl
    subst e4
    have eθ := key l3 Z3.ml hl4
    obtain ⟨G3, θ3⟩ := g3
    have eθ : θ3 = g.θ ++ [D0] := eθ
    subst eθ
    exact ⟨acc, M4, G3, l.trans l3.G, hl4, hwipe _ _ _ Z3, q4⟩
  | true =>
    show teA X scope elt _ H3 _
    intro s H' C' cl fp
    refine tS_mono ((q1 rfl s H' C' cl fp).run _ _ _ Z3) fun y H4 ⟨t, M3, g4, l4, r4, Z4, yk, M4, et, e4, hl4, hsz, q4⟩ => ?_
    subst et e4
    have eθ := key (l3.trans l4) Z4.ml hl4
    obtain ⟨G4, θ4⟩ := g4
    have eθ : θ4 = g.θ ++ [D0] := eθ
    subst eθ
    have e1 : (M4 ++ [setC X acc])[m]? = some (setC X acc) := by rw [← hl4, List.getElem?_append_right (Nat.le_refl _)]; simp
    have e2 : (g.θ ++ [D0])[m]? = some D0 := by rw [hm, List.getElem?_append_right (Nat.le_refl _)]; simp
    have h1 : H4 D0 = some (SetMO X.prog X.w D0 acc) := Z4.ob m _ D0 e1 e2
    refine ⟨yk, acc, of_kD r4, h1, hsz, ?_⟩
    have Z5 := hwipe _ _ _ (Z4.write (c' := setC X (addK acc yk)) (o := SetMO X.prog X.w D0 (addK acc yk)) e1 e2 (by intro h; cases h) upd_same)
    have e5 : (M4 ++ [setC X acc]).set m (setC X (addK acc yk)) = M4 ++ [setC X (addK acc yk)] := by
      rw [← hl4, List.set_append_right _ _ (Nat.le_refl _)]; simp
    rw [e5] at Z5
    exact ⟨addK acc yk, M4, G4, l.trans (l3.G.trans l4.G), hl4, Z5, q4⟩
theorem scm_tup {K : PySem.W.Frag} {P : Program} {w : World} {a : Addr} {xs : List V} {gg : TG} {tt : TT} {te : TE} {vs : List Nat} {σ : L2.St} {H1 : Hp} {D0 : Addr} {Qd : Hp → Prop} (Pv : Nat → Hp → Prop) (h0 : Pv 0 (upd H1 D0 (SetMO P w D0 []))) (hl : ∀ i H, i ≤ xs.length → Pv i H → SqT K H a xs)
    (hs : ∀ i y H, xs[i]? = some y → Pv i H → gg y (wipe σ vs) H fun σ2 H2 => wipe σ2 vs = wipe σ vs ∧ tt σ2 H2 fun b H3 =>
      if b = true then te σ2 H3 fun y H4 => ∃ (k : Key) (l : List Key), y = kV k ∧ H4 D0 = some (SetMO P w D0 l) ∧ l.length + 1 < scanBound ∧ Pv (i + 1) (upd H4 D0 (SetMO P w D0 (addK l k))) else Pv (i + 1) H3) (hd : ∀ H, Pv xs.length H → Qd H) :
    ∃ W : Nat → Nat → Hp → Prop, (∃ m, W 0 m (upd H1 D0 (SetMO P w D0 []))) ∧ ∀ i m H, W i m H →
      ((Itt K a).stop i H ∧ Qd H) ∨ ((Itt K a).go i H ∧ ∃ Nx : Hp → Prop, (∀ H2, Nx H2 → ∃ m2, m2 < m ∧ W (i + 1) m2 H2) ∧ ∀ x H2, (Itt K a).yld i H x H2 → gg x (wipe σ vs) H2 fun σ2 H2 => wipe σ2 vs = wipe σ vs ∧ tt σ2 H2 fun b H3 =>
        if b = true then te σ2 H3 fun y H4 => ∃ (k : Key) (l : List Key), y = kV k ∧ H4 D0 = some (SetMO P w D0 l) ∧ l.length + 1 < scanBound ∧ Nx (upd H4 D0 (SetMO P w D0 (addK l k))) else Nx H3) := by
  refine ⟨fun i m H => m = xs.length - i ∧ i ≤ xs.length ∧ Pv i H, ⟨xs.length, rfl, Nat.zero_le _, h0⟩, ?_⟩
  rintro i m H ⟨rfl, hi, p⟩
  have q := hl i H hi p
  rcases Nat.lt_or_ge i xs.length with hlt | hge
  · right
    refine ⟨⟨xs, xs[i], q, List.getElem?_eq_getElem hlt⟩, Pv (i + 1), fun H' p' => ⟨xs.length - (i + 1), by omega, rfl, hlt, p'⟩, ?_⟩
    rintro x H' ⟨rfl, k⟩
    exact hs i x _ (k xs q) p
  · left
    have e : i = xs.length := by omega
    subst e
    exact ⟨⟨xs, q, Nat.le_refl _⟩, hd H p⟩
/-- {e for x in t}, t a tuple -/
theorem de_scT {i : Nat} {px : Pos} {elt iter : Expr} {ifs : List Expr} {scope : Scope} (hc : X.calm = true) (hN : X.N.Nodup) (ok : BlkOk X.N X.env.scope scope [(x, i)])
    (hg : ∀ (s : Shared) (H : Hp) (C : Addr) (cl : List (Str × Addr)) (fp : List Addr), PG (BX X scope s H C cl fp) (.Name x px) (gName i)) (hs : ∀ x, foldedSetIterable iter X.env x = pure x)
    (h : DE F X iter ρ M fun s M' => ∃ ds, s = .d (.tup ds) ∧ ∃ I : Nat → List Key → Mem → Prop, I 0 [] M' ∧ (∀ k d acc M1, ds[k]? = some d → I k acc M1 → M1.length = M'.length → ScTurn F X scope ifs elt ((ρ.set i none).set i (some (.d d))) M'.length acc M1 (fun acc' M4 => I (k + 1) acc' M4) (fun M4 => I (k + 1) acc M4)) ∧
      ∀ acc M1, I ds.length acc M1 → M1.length = M'.length → Q (.p M'.length) (M1 ++ [setC X acc])) : DE F X (.SetComp elt [⟨.Name x px, iter, ifs, 0⟩] scope pos) ρ M Q := ⟨fun g σ H Z => of_pe (pe_sM (own := [(x, i)]) (g := gName i) (tt := ttA X scope ifs) (te := teA X scope elt) hc hN (pi_tup pe_s) ok hg
      (fun s H C cl fp => ⟨fun pins s1 σ H' Q I h => h s H C cl fp pins s1 I⟩) (fun s H C cl fp => ⟨fun pins s1 σ H' Q I h => h s H C cl fp pins s1 I⟩) hs) <|
  tS_mono (h.run g σ H Z) fun v H1 ⟨s, M', g', l, r, Z', ds, es, I, i0, turn, done⟩ => by
    subst es
    obtain ⟨a, xs, rfl, h1, h2⟩ := repTup r
    refine ⟨a, rfl, ⟨xs, le_t Z'.sub h1⟩, fun D0 hD => scm_tup (K := X.K) (a := a) (xs := xs) (ScPv X F g' D0 (ρ.set i none) (σ.set i none) M'.length I) ?_ (fun k H2 _ ⟨acc, M1, G', l', _, Z1, _⟩ => le_t (l'.trans Z1.sub) h1) (fun k y H2 hk P => ?_) (fun H2 P => ?_)⟩
    · obtain ⟨Z2, L⟩ := Z'.allocP (o := SetMO X.prog X.w D0 []) (c := setC X []) hD upd_same
      exact ⟨[], M', g'.G, Le.refl _, rfl, Z2.wipe i, i0⟩
    · obtain ⟨d, hd, rd⟩ := h2.getV hk
      refine ⟨?_, sc_stepG Z'.ml P (fun G' M H lG Z => Z.set (i := i) (v := y) (s := .d d) (Rep.mono lG rd)) (fun G' M H Z => ?_) (fun acc M1 q hl => turn k d acc M1 hd q hl)⟩
      · show ((σ.set i none).set i (some y)).set i none = σ.set i none
        rw [List.set_set, List.set_set]
      · have Z2 := Z.wipe i
        rw [show wipe σ (List.map (fun x => x.snd) [(x, i)]) = σ.set i none from rfl, List.set_set, List.set_set, List.set_set, List.set_set] at Z2
        exact Z2
    · rw [h2.length] at P
      obtain ⟨acc, M1, G', l', hl, Z1, q⟩ := P
      have L : Gle g' ⟨G', g'.θ ++ [D0]⟩ := ⟨l', [D0], rfl⟩
      refine ⟨.p M'.length, _, _, l.trans L, ⟨D0, rfl, ?_⟩, Z'.unwipe Z1 L, done acc M1 q hl⟩
      show (g'.θ ++ [D0])[M'.length]? = some D0
      rw [Z'.ml, List.getElem?_append_right (Nat.le_refl _)]
      simp⟩
end
end DL
end

section
set_option Elab.async false
set_option linter.all false
set_option maxRecDepth 100000
set_option maxHeartbeats 4000000
namespace DL
open PySem PySem.Spec PyProof.Rows L2
/-! ### instances -/
theorem repF_get {K : PySem.W.Frag} {G : Hp} {f : Str} {d : D} : ∀ {vs : List (Str × V)} {ds : List (Str × D)}, RepF K G vs ds → ds.lookup f = some d → ∃ v, vs.lookup f = some v ∧ Rep K G v d
  | _, _, .nil, h => by cases h
  | (k, v) :: vs, (_, e) :: ds, .cons r t, h => by
    rw [List.lookup_cons] at h ⊢
    cases q : (f == k) with
    | true => rw [q] at h; cases h; exact ⟨v, rfl, r⟩
    | false => rw [q] at h; exact repF_get t h
theorem repF_none {K : PySem.W.Frag} {G : Hp} {f : Str} : ∀ {vs : List (Str × V)} {ds : List (Str × D)}, RepF K G vs ds → ds.lookup f = none → vs.lookup f = none
  | _, _, .nil, h => rfl
  | (k, v) :: vs, (_, e) :: ds, .cons r t, h => by
    rw [List.lookup_cons] at h ⊢
    cases q : (f == k) with
    | true => rw [q] at h; cases h
    | false => rw [q] at h; exact repF_none t h
theorem repSf_get {K : PySem.W.Frag} {g : Gh} {f : Str} {d : S} : ∀ {vs : List (Str × V)} {ds : List (Str × S)}, RepSf K g vs ds → ds.lookup f = some d → ∃ v, vs.lookup f = some v ∧ RepS K g v d
  | _, _, .nil, h => by cases h
  | (k, v) :: vs, (_, e) :: ds, .cons r t, h => by
    rw [List.lookup_cons] at h ⊢
    cases q : (f == k) with
    | true => rw [q] at h; cases h; exact ⟨v, rfl, r⟩
    | false => rw [q] at h; exact repSf_get t h
theorem repSf_none {K : PySem.W.Frag} {g : Gh} {f : Str} : ∀ {vs : List (Str × V)} {ds : List (Str × S)}, RepSf K g vs ds → ds.lookup f = none → vs.lookup f = none
  | _, _, .nil, h => rfl
  | (k, v) :: vs, (_, e) :: ds, .cons r t, h => by
    rw [List.lookup_cons] at h ⊢
    cases q : (f == k) with
    | true => rw [q] at h; cases h
    | false => rw [q] at h; exact repSf_none t h
theorem repSf_len {K : PySem.W.Frag} {g : Gh} : ∀ {vs : List (Str × V)} {ds : List (Str × S)}, RepSf K g vs ds → vs.length = ds.length
  | _, _, .nil => rfl
  | _, _, .cons _ t => by simp [repSf_len t]
abbrev insS (ds : List (Str × D)) : List (Str × S) := ds.map fun p => (p.1, S.d p.2)
theorem repSf_F {K : PySem.W.Frag} {g : Gh} : ∀ {vs : List (Str × V)} {ds : List (Str × D)}, RepSf K g vs (insS ds) → RepF K g.G vs ds
  | _, [], .nil => .nil
  | _, (_, _) :: _, .cons h r => .cons h (repSf_F r)
/-- the attribute f, set -/
def putS (f : Str) (x : S) : List (Str × S) → List (Str × S)
  | [] => [(f, x)]
  | p :: r => if p.1 = f then (f, x) :: r else p :: putS f x r
theorem repSf_put {K : PySem.W.Frag} {g : Gh} {f : Str} {v : V} {s : S} (h : RepS K g v s) : ∀ {vs : List (Str × V)} {ds : List (Str × S)}, RepSf K g vs ds → RepSf K g (putF f v vs) (putS f s ds)
  | _, _, .nil => .cons h .nil
  | (k, u) :: vs, (_, e) :: ds, .cons r t => by
    unfold putF putS
    by_cases q : k = f
    · rw [if_pos q, if_pos q, ← q]; exact .cons h t
    · rw [if_neg q, if_neg q]; exact .cons r (repSf_put h t)
section
variable {X : Cx} {F : Fc} {ρ : Rho} {M : Mem} {Q : S → Mem → Prop} {QT : Bool → Mem → Prop} {N : DEnds} {e o value : Expr} {es : List Expr} {pos apos p : Pos} {x f : Str}
/-- o.f, of an instance that is data -/
theorem de_fld (hb : attributeBase o f X.env (eval o X.env) = eval o X.env) (h : DE F X o ρ M fun s M1 => ∃ C fs d, s = .d (.ins C fs) ∧ Cls X.K C ∧ NoAttr X.K C f ∧ fs.lookup f = some d ∧ Q (.d d) M1) : DE F X (.Attribute o f pos) ρ M Q := ⟨fun g σ H Z => of_pe (pe_fld pe_s hb) <|
  tS_mono (h.run g σ H Z) fun v H1 ⟨s, M1, g1, l1, r1, Z1, C, fs, d, es', c, n, hl, q⟩ => by
    subst es'
    have r1 : Rep X.K g1.G v (.ins C fs) := r1
    cases r1 with
    | @ins a _ dx vs _ h1 h2 =>
      obtain ⟨u, hu, ru⟩ := repF_get h2 hl
      exact ⟨a, C, dx, vs, u, rfl, Z1.sub _ _ h1, c, n, hu, .d d, M1, g1, l1, ru, Z1, q⟩⟩
/-- .. that may change -/
theorem de_fldP (hb : attributeBase o f X.env (eval o X.env) = eval o X.env) (h : DE F X o ρ M fun s M1 => ∃ n C fs t, s = .p n ∧ M1[n]? = some (.ins C fs) ∧ Cls X.K C ∧ NoAttr X.K C f ∧ fs.lookup f = some t ∧ Q t M1) : DE F X (.Attribute o f pos) ρ M Q := ⟨fun g σ H Z => of_pe (pe_fld pe_s hb) <|
  tS_mono (h.run g σ H Z) fun v H1 ⟨s, M1, g1, l1, r1, Z1, n, C, fs, t, es', em, c, na, hl, q⟩ => by
    subst es'
    obtain ⟨a, rfl, ea⟩ := r1
    obtain ⟨dx, vs, h1, h2⟩ := Z1.ob n _ a em ea
    obtain ⟨u, hu, ru⟩ := repSf_get h2 hl
    exact ⟨a, C, dx, vs, u, rfl, h1, c, na, hu, t, M1, g1, l1, ru, Z1, q⟩⟩
/-- o.f = v -/
theorem ds_fld {p2 : Pos} (h : DE F X value ρ M fun y M1 => DE F X o ρ M1 fun s M2 => ∃ n C fs, s = .p n ∧ M2[n]? = some (.ins C fs) ∧ Cls X.K C ∧ NoAttr X.K C f ∧ fs.length < 1000 ∧ N.nx ρ (M2.set n (.ins C (putS f y fs))))
    (hs : swapsWith value (some (.Attribute o f p2)) pos.line X.env = pure false) : DS F X (.Assign [.Attribute o f p2] value pos) ρ M N := ⟨fun g σ H Z => of_ps (ps_fld pe_s pe_s hs) <|
  tS_mono (h.run g σ H Z) fun u H1 ⟨y, M1, g1, l1, r1, Z1, q1⟩ => tS_mono (q1.run g1 σ H1 Z1) fun v H2 ⟨s, M2, g2, l2, r2, Z2, n, C, fs, es', em, c, na, hl, q⟩ => by
    subst es'
    obtain ⟨a, rfl, ea⟩ := r2
    obtain ⟨dx, vs, h1, h2⟩ := Z2.ob n _ a em ea
    refine ⟨a, C, dx, vs, rfl, h1, c, na, by rw [repSf_len h2]; exact hl, ρ, _, g2, l1.trans l2, Z2.write (c' := .ins C (putS f y fs)) (o := .ins C dx (putF f u vs)) em ea (by intro h; cases h) ⟨dx, _, upd_same, repSf_put (r1.mono l2) h2⟩, q⟩⟩
/-- o.m(..), of an instance that is data -/
theorem de_meth {k j : Nat} {fa C : Addr} {fd : FuncData} {ps : List Str} {sd : Sd} {m : Str} {pl : Sem Bool} (c : Cls X.K C) (hm : Meth X.K C m fa) (G : FnG X.prog X.w X.K X.mg X.base CX0 k fa fd ps (spOf X.K ps.length sd)) (hb : Binds X.K fd ps []) (hr : Room j X.A) (hgu : X.A.guards = some []) (hkj : k ≤ j)
    (hst : starEach (e :: es) X.env = (false, eval e X.env) :: starEach es X.env) (hpl : (backTo pos (starEach es X.env)).any (·.1) = false)
    (ht : eval (.Call (.Attribute o m apos) (e :: es) [] pos) X.env = (do
      let z ← eval o X.env
      standAt apos.atName
      let (y, first) ← holding [z] (getMethod z m pl)
      callWith pos y first (backTo pos (starEach (e :: es) X.env)) (backToKw pos (keywordEach [] X.env))))
    (h : DE F X o ρ M fun s M1 => ∃ fs, s = .d (.ins C fs) ∧ fs.lookup m = none ∧ DA F X (e :: es) ρ M1 fun ss M2 => SpD F X (spOf X.K ps.length sd) [] (s :: ss) ρ M2 Q) : DE F X (.Call (.Attribute o m apos) (e :: es) [] pos) ρ M Q := ⟨fun g σ H Z => by
  refine fun pins s I => PySem.W.methodCall_KW (pl := pl) (thn (h.run g σ H Z pins s I) fun u s1 ⟨v, H1, I1, rv, t, M1, g1, l1, r1, Z1, fs, et, hl, q1⟩ => ?_) ht
  subst et
  have r0 : Rep X.K g1.G v (.ins C fs) := r1
  cases r0 with
  | @ins a _ dx vs _ h1 h2 =>
    obtain rfl : u = Value.ref a := rv
    refine getmeth_ok I1 (Z1.sub _ _ h1) c hm (repF_none h2 hl) ?_
    refine PySem.W.callWith_K (first := [.ref a]) (h₀ := X.base) I.ok.mod.kin hm.kp (thn (q1.run g1 σ H1 Z1 pos pins s1 I1) fun us s2 ⟨ws, H2, I2, rw', ss, M2, g2, l2, r2, Z2, q2⟩ => ⟨I2.kIn, ?_⟩) hst hpl
    exact runG (us := .ref a :: us) (vs := .ref a :: ws) (ds := []) (dvs := []) G (hr.mono hkj) hgu hb .nil I2 (.cons rfl rw') (q2.run g g2 σ H2 _ (l1.trans l2) Z2 (.cons (r1.mono l2) r2))⟩
/-- o.m() -/
theorem de_meth0 {k j : Nat} {fa C : Addr} {fd : FuncData} {ps : List Str} {sd : Sd} {m : Str} {pl : Sem Bool} (c : Cls X.K C) (hm : Meth X.K C m fa) (G : FnG X.prog X.w X.K X.mg X.base CX0 k fa fd ps (spOf X.K ps.length sd)) (hb : Binds X.K fd ps []) (hr : Room j X.A) (hgu : X.A.guards = some []) (hkj : k ≤ j)
    (ht : eval (.Call (.Attribute o m apos) [] [] pos) X.env = (do
      let z ← eval o X.env
      standAt apos.atName
      let (y, first) ← holding [z] (getMethod z m pl)
      callWith pos y first (backTo pos (starEach [] X.env)) (backToKw pos (keywordEach [] X.env))))
    (h : DE F X o ρ M fun s M1 => ∃ fs, s = .d (.ins C fs) ∧ fs.lookup m = none ∧ SpD F X (spOf X.K ps.length sd) [] [s] ρ M1 Q) : DE F X (.Call (.Attribute o m apos) [] [] pos) ρ M Q := ⟨fun g σ H Z => by
  refine fun pins s I => PySem.W.methodCall_KW (pl := pl) (thn (h.run g σ H Z pins s I) fun u s1 ⟨v, H1, I1, rv, t, M1, g1, l1, r1, Z1, fs, et, hl, q1⟩ => ?_) ht
  subst et
  have r0 : Rep X.K g1.G v (.ins C fs) := r1
  cases r0 with
  | @ins a _ dx vs _ h1 h2 =>
    obtain rfl : u = Value.ref a := rv
    refine getmeth_ok I1 (Z1.sub _ _ h1) c hm (repF_none h2 hl) ?_
    exact PySem.W.callWith_K0 (first := [.ref a]) I1.kIn hm.kp (runG (us := [.ref a]) (vs := [.ref a]) (ds := []) (dvs := []) G (hr.mono hkj) hgu hb .nil I1 (.cons rfl .nil) (q1.run g g1 σ H1 _ l1 Z1 (.cons r1 .nil)))⟩
/-! ### instances that are made -/
theorem Sim.grow {K : PySem.W.Frag} {g : Gh} {σ : L2.St} {H H2 : Hp} (Z : Sim K F g ρ M σ H) (l : Le H H2) : Sim K F g ρ M σ H2 :=
  ⟨Z.sub.trans l, Z.ln, Z.sl, Z.ml, fun i c a e1 e2 => (Z.ob i c a e1 e2).mono (Gle.refl g) (l a), Z.nd, fun a h => let ⟨o, e⟩ := Z.tr a h; ⟨o, l _ _ e⟩, Z.go, Z.pre, fun a o e h => l _ _ (Z.fr a o e h), Z.own, Z.gn, Z.g0⟩
theorem Sim.kill {K : PySem.W.Frag} {g : Gh} {σ : L2.St} {H : Hp} (Z : Sim K F g ρ M σ H) (n : Nat) : Sim K F g ρ (M.set n .dead) σ H := by
  refine ⟨Z.sub, Z.ln, Z.sl, by simp [Z.ml], fun i c a e1 e2 => ?_, Z.nd, Z.tr, fun i c a e1 e2 => ?_, Z.pre, Z.fr, Z.own, Z.gn, Z.g0⟩
  · by_cases h : n = i
    · subst h
      rw [List.getElem?_set] at e1
      simp at e1
      obtain ⟨_, rfl⟩ := e1
      trivial
    · rw [List.getElem?_set_ne h] at e1
      exact Z.ob i c a e1 e2
  · by_cases h : n = i
    · subst h
      rw [List.getElem?_set] at e1
      simp at e1
      exact .inl e1.2.symm
    · rw [List.getElem?_set_ne h] at e1
      exact Z.go i c a e1 e2
theorem mk_post {K : PySem.W.Frag} {np : Nat} {sd : Sd} {g g1 : Gh} {σ : L2.St} {H : Hp} {C : Addr} {bvs : List V} {bss : List S} (l : Gle g g1) (Z : Sim K F g1 ρ M σ H) (rb : RepSs K g1 bvs bss) (hf : bss.all flatS = true) (hl : bss.length + 1 = np)
    (h : sd (.p 0 :: bss) [.ins C []] fun r cs => r = .d .non ∧ ∃ ds, cs = [.ins C (insS ds)] ∧ Q (.d (.ins C ds)) M) : ∀ a dx, H a = none → H dx = none → dx ≠ a → spOf K np sd (.ref a :: bvs) (upd (upd H dx (.own a)) a (.ins C dx [])) (fun v H2 => v = .non ∧ Post K F ρ σ g Q (.ref a) H2) E0 := by
  intro a dx ha hd ne
  have n0 : upd H dx (.own a) a = none := by rw [upd_ne (Ne.symm ne)]; exact ha
  have L : Le H (upd (upd H dx (.own a)) a (.ins C dx [])) := (Le.new hd).trans (Le.new n0)
  obtain ⟨f1, f2, f3⟩ := Z.fresh ha
  have Z0 := Z.grow ((Le.new hd).trans (Le.new (p := a) (o := HO.ins C dx []) n0))
  have rb0 : RepSs K ⟨g1.G, [a]⟩ (.ref a :: bvs) (.p 0 :: bss) := .cons ⟨a, rfl, rfl⟩ (repSs_flat (θ := g1.θ) hf rb)
  refine ⟨by rw [rb0.length, List.length_cons]; exact hl, .p 0 :: bss, [.ins C []], g1.G, [a], rb0, Z.sub.trans L, ⟨rfl, fun i c b e1 e2 => ?_⟩, by simp, fun b hb => by rw [List.mem_singleton.mp hb]; exact f1, _, h, fun r cs q v H2 G2 A C1 rv => ?_⟩
  · cases i with
    | zero => cases e1; cases e2; exact ⟨rfl, dx, [], upd_same, .nil⟩
    | succ i => simp at e1
  · obtain ⟨rfl, ds, rfl, q⟩ := q
    obtain ⟨_, k2⟩ := C1.2 0 _ a rfl rfl
    obtain ⟨dx2, fs2, h2, r2⟩ := k2
    refine ⟨by have : Rep K G2 v .non := rv; cases this; rfl, ?_⟩
    have ga : G2 a = none := A.go a (by simp)
    have LG : Le g1.G (upd G2 a (.ins C dx2 fs2)) := A.le.trans (Le.new ga)
    have Lg : Gle g1 ⟨upd G2 a (.ins C dx2 fs2), g1.θ⟩ := ⟨LG, [], by simp⟩
    have nθ : ∀ b ∈ g1.θ, b ≠ a := fun b hb e => f2 (e ▸ hb)
    have sub2 : Le (upd G2 a (.ins C dx2 fs2)) H2 := fun b u e => by
      by_cases q : b = a
      · subst q; rw [upd_same] at e; cases e; exact h2
      · rw [upd_ne q] at e; exact A.sub _ _ e
    refine ⟨.d (.ins C ds), M, ⟨upd G2 a (.ins C dx2 fs2), g1.θ⟩, l.trans Lg, ?_, ⟨sub2, Z0.ln, fun i s e => ?_, Z0.ml, fun i c b e1 e2 => ?_, Z0.nd, fun b hb => ?_, fun i c b e1 e2 => ?_, Z0.pre, fun b u e hb => ?_, Z0.own, fun b u e => ?_, Z0.g0.trans LG⟩, q⟩
    · exact Rep.ins upd_same (RepF.mono (Le.new ga) (repSf_F (g := ⟨G2, [a]⟩) r2))
    · obtain ⟨w, k1, k2⟩ := Z0.sl i s e
      exact ⟨w, k1, k2.mono Lg⟩
    · have hb := nθ b (List.mem_of_getElem? e2)
      exact (Z0.ob i c b e1 e2).mono Lg fun u e => A.fr b u e (by simpa using hb)
    · obtain ⟨u, e⟩ := Z0.tr b hb
      exact ⟨u, A.fr b u e (by simpa using nθ b hb)⟩
    · rcases Z0.go i c b e1 e2 with h | h
      · exact .inl h
      · right
        show upd G2 a _ b = none
        rw [upd_ne (nθ b (List.mem_of_getElem? e2))]
        cases w : G2 b with
        | none => rfl
        | some u =>
          rcases A.gn b u w with z | z
          · rw [h] at z; cases z
          · obtain ⟨u2, e3⟩ := Z0.tr b (List.mem_of_getElem? e2)
            rw [z] at e3; cases e3
    · refine A.fr b u (Z0.fr b u e hb) fun z => ?_
      rw [List.mem_singleton.mp z] at e
      rw [f3] at e; cases e
    · by_cases q : b = a
      · exact .inr (q ▸ f3)
      · have e : upd G2 a (.ins C dx2 fs2) b = some u := e
        rw [upd_ne q] at e
        rcases A.gn b u e with z | z
        · exact Z0.gn b u z
        · right
          have hz : H b = none := by
            cases w : H b with
            | none => rfl
            | some u2 => rw [L _ _ w] at z; cases z
          exact (Z.fresh hz).2.2
end
end DL
end

section
set_option Elab.async false
set_option linter.all false
set_option maxRecDepth 100000
set_option maxHeartbeats 4000000
namespace DL
open PySem PySem.Spec PyProof.Rows L2
theorem make_guards {A : Around} {C : Addr} {us : List Value} {kw : List (Str × Value)} (h : A.guards = some []) : (A.under (.builtin "type.__call__" ⟨.ref C :: us, kw⟩)).guards = some [] := by
  first | exact h | simpa [Around.under, Code.weight, Code.isGuard, Code.guards, pushGuards, guardIds] using h
section
variable {X : Cx} {F : Fc} {ρ : Rho} {M : Mem} {Q : S → Mem → Prop} {QT : Bool → Mem → Prop} {N : DEnds} {e o value : Expr} {es : List Expr} {pos apos p : Pos} {x f : Str} {k j : Nat} {fa C : Addr} {fd : FuncData} {ps ks : List Str} {sp : Sp} {sd : Sd}
theorem run_mk {pins : List (Addr × Obj)} {σ : L2.St} {H : Hp} {s : Shared} {R : VK} {us ws bs : List Value} {bvs : List V} (K : Mk X.K C fa) (G : FnG X.prog X.w X.K X.mg X.base CX0 k fa fd ps sp) (hr : Room (k + 1) X.A) (hgu : X.A.guards = some [])
    (hb : ∀ (s2 : Shared) (y : Value), X.K.In s2.heap → BindsTo s2 fd ⟨y :: us, ks.zip ws⟩ (ps.zip (y :: bs))) (I : Inv X pins σ H s) (rb : Vals bvs bs)
    (h : ∀ a dx, H a = none → H dx = none → dx ≠ a → sp (.ref a :: bvs) (upd (upd H dx (.own a)) a (.ins C dx [])) (fun v H2 => v = .non ∧ R (.ref a) H2) E0) :
    wpAny (model X.prog X.w) X.A (call (.ref C) us (ks.zip ws)) (EP X pins σ R) X.xe s := by
  have hq := h (s.heap.objs.size + 1) s.heap.objs.size (I.hok.fresh (Nat.le_succ _)) (I.hok.fresh (Nat.le_refl _)) (Nat.ne_of_lt (Nat.lt_succ_self _))
  have I2 := Inv.made (C := C) I
  refine wpAny_call (make_map (f := fa) I.kIn K.makes K.init (beq_iff_eq.mp K.fn) (codeAny_mono (G.run _ X.stack _ _ ⟨Value.ref (s.heap.objs.size + 1) :: us, ks.zip ws⟩ (Value.ref (s.heap.objs.size + 1) :: bs) _ _ E0 (hr.make C us (ks.zip ws)) (make_guards hgu)
    (I2.env0.make C us (ks.zip ws)) (hb _ _ I2.kIn) (.cons (show RelV (V.ref (s.heap.objs.size + 1)) (Value.ref (s.heap.objs.size + 1)) from rfl) rb) hq) fun rs s2 hq2 => ?_))
  cases rs with
  | error er => exact (show False from hq2).elim
  | ok fl =>
    cases fl with
    | ret u =>
      obtain ⟨v, H3, I3, rv, ev, q3⟩ := I2.after hq2
      subst ev
      exact ⟨rv, V.ref (s.heap.objs.size + 1), H3, I3, rfl, q3⟩
    | _ => exact (show False from hq2).elim
/-- what a call of a class hands to its __init__, and what comes back -/
def MkD (C : Addr) (np : Nat) (sd : Sd) (bss : List S) (M : Mem) (Q : S → Mem → Prop) : Prop := bss.all flatS = true ∧ bss.length + 1 = np ∧ sd (.p 0 :: bss) [.ins C []] fun r cs => r = .d .non ∧ ∃ ds, cs = [.ins C (insS ds)] ∧ Q (.d (.ins C ds)) M
/-- C(e, ..), the defaults ts behind -/
theorem de_mk {dvs : List V} {ds : List Value} {ts : List S} (K : Mk X.K C fa) (G : FnG X.prog X.w X.K X.mg X.base CX0 k fa fd ps (spOf X.K ps.length sd)) (hr : Room j X.A) (hgu : X.A.guards = some []) (hkj : k + 1 ≤ j) (hg : Gl X x) (hm : X.mg x = some (.ref C))
    (hb : Binds X.K fd ps ds) (hd : Vals dvs ds) (hts : ∀ g, RepSs X.K g dvs ts) (hdb : (x == ("__debug__" : Str)) = false) (he : starEach (e :: es) X.env = (false, eval e X.env) :: starEach es X.env) (hpl : (backTo pos (starEach es X.env)).any (·.1) = false)
    (h : DA F X (e :: es) ρ M fun ss M1 => MkD C ps.length sd (ss ++ ts) M1 Q) : DE F X (.Call (.Name x p) (e :: es) [] pos) ρ M Q := ⟨fun g σ H Z pins s I => by
  refine wpAny_Call_Name_kw (ld_glob I hg hm ?_ hdb)
  refine PySem.W.callWith_K (h₀ := X.base) I.ok.mod.kin K.kp (thn (h.run g σ H Z pos pins s I) fun us s1 ⟨vs, H1, I1, rv, ss, M1, g1, l1, r1, Z1, hf, hl, q⟩ => ⟨I1.kIn, ?_⟩) he hpl
  have rb : RepSs X.K g1 (vs ++ dvs) (ss ++ ts) := repSs_append r1 (hts g1)
  have rv2 : Vals (vs ++ dvs) (us ++ ds) := rv.append hd
  have hlen : (us ++ ds).length + 1 = ps.length := by rw [← rv2.length, rb.length]; exact hl
  refine run_mk (ks := []) (ws := []) K G (hr.mono hkj) hgu (fun s2 y hk => ?_) I1 rv2 (mk_post l1 Z1 rb hf hl q)
  have := hb s2 (y :: us) hk (by rw [List.cons_append, List.length_cons]; exact hlen)
  rwa [List.cons_append] at this⟩
/-- the values of keywords -/
def tK (X : Cx) (kws : List Keyword) : TA := fun σ H Q => ∀ (pos : Pos) (pins : List (Addr × Obj)) (s : Shared), Inv X pins σ H s → wpAny (model X.prog X.w) X.A (evalAll ((backToKw pos (keywordEach kws X.env)).map (·.2))) (AP X pins σ Q) X.xe s
structure DK (F : Fc) (X : Cx) (kws : List Keyword) (ρ : Rho) (M : Mem) (Q : List S → Mem → Prop) : Prop where
  run : ∀ g σ H, Sim X.K F g ρ M σ H → tK X kws σ H (PostA X.K F ρ σ g Q)
theorem dk_nil {QA : List S → Mem → Prop} (q : QA [] M) : DK F X [] ρ M QA := ⟨fun g σ H Z pos pins s I => pk_nil.run pos pins s σ H _ I ⟨[], M, g, Gle.refl g, .nil, Z, q⟩⟩
theorem dk_cons {QA : List S → Mem → Prop} {nm : Option Str} {kp : Pos} {kws : List Keyword} (h : DE F X e ρ M fun s M1 => DK F X kws ρ M1 fun ss M2 => QA (s :: ss) M2) : DK F X (⟨nm, e, kp⟩ :: kws) ρ M QA := ⟨fun g σ H Z pos pins s I =>
  (pk_cons pe_s (t := tK X kws) ⟨fun pos pins s σ H Q I h => h pos pins s I⟩).run pos pins s σ H _ I <| tS_mono (h.run g σ H Z) fun v H1 ⟨y, M1, g1, l1, r1, Z1, q1⟩ pos pins s I => thn (q1.run g1 σ H1 Z1 pos pins s I) fun _ _ ⟨vs, H2, I2, rv, ss, M2, g2, l2, r2, Z2, q2⟩ =>
    ⟨vs, H2, I2, rv, y :: ss, M2, g2, l1.trans l2, .cons (r1.mono l2) r2, Z2, q2⟩⟩
/-- how keywords are put among the arguments: us positional, ws of keywords -/
structure KwTo (K : PySem.W.Frag) (fd : FuncData) (ps ks : List Str) (n : Nat) (gS : List S → List S → List S) : Prop where
  ex : ∃ (g : List Value → List Value → List Value) (gV : List V → List V → List V), (∀ (s : Shared) (y : Value) (us ws : List Value), K.In s.heap → us.length = n → ws.length = ks.length → BindsTo s fd ⟨y :: us, ks.zip ws⟩ (ps.zip (y :: g us ws))) ∧
    (∀ {vs : List V} {us : List Value} {zs : List V} {ws : List Value}, vs.length = n → zs.length = ks.length → Vals vs us → Vals zs ws → Vals (gV vs zs) (g us ws)) ∧ ∀ {G : Gh} {vs zs : List V} {ss ts : List S}, ss.length = n → ts.length = ks.length → RepSs K G vs ss → RepSs K G zs ts → RepSs K G (gV vs zs) (gS ss ts)
/-- C(e, .., k = v, ..) -/
theorem de_mkN {n : Nat} {kws : List Keyword} {gS : List S → List S → List S} (K : Mk X.K C fa) (G : FnG X.prog X.w X.K X.mg X.base CX0 k fa fd ps (spOf X.K ps.length sd)) (hr : Room j X.A) (hgu : X.A.guards = some []) (hkj : k + 1 ≤ j) (hg : Gl X x) (hm : X.mg x = some (.ref C))
    (hb : KwTo X.K fd ps ks n gS) (hall : (backToKw pos (keywordEach kws X.env)).all (·.1.isSome) = true) (hks : (backToKw pos (keywordEach kws X.env)).filterMap (·.1) = ks) (hdb : (x == ("__debug__" : Str)) = false)
    (he : starEach (e :: es) X.env = (false, eval e X.env) :: starEach es X.env) (hpl : ((backTo pos (starEach (e :: es) X.env)).any (·.1) || (backToKw pos (keywordEach kws X.env)).any (·.1.isNone)) = false)
    (h : DA F X (e :: es) ρ M fun ss M1 => DK F X kws ρ M1 fun ts M2 => ss.length = n ∧ ts.length = ks.length ∧ MkD C ps.length sd (gS ss ts) M2 Q) : DE F X (.Call (.Name x p) (e :: es) kws pos) ρ M Q := ⟨fun g σ H Z pins s I => by
  obtain ⟨gv, gV, b1, b2, b3⟩ := hb.ex
  refine wpAny_Call_Name_kw (ld_glob I hg hm ?_ hdb)
  refine PySem.W.callWith_KW (h₀ := X.base) I.ok.mod.kin K.kp hall (thn (h.run g σ H Z pos pins s I) fun us s1 ⟨vs, H1, I1, rv, ss, M1, g1, l1, r1, Z1, q1⟩ => ?_) hpl he
  refine thn (q1.run g1 σ H1 Z1 pos pins s1 I1) fun ws s2 ⟨zs, H2, I2, rz, ts, M2, g2, l2, r2, Z2, n1, n2, hf, hl, q⟩ => ⟨I2.kIn, ?_⟩
  rw [hks]
  have m1 : vs.length = n := by rw [r1.length]; exact n1
  have m2 : zs.length = ks.length := by rw [r2.length]; exact n2
  exact run_mk K G (hr.mono hkj) hgu (fun s2 y hk => b1 s2 y us ws hk (rv.length.symm.trans m1) (rz.length.symm.trans m2)) I2 (b2 m1 m2 rv rz) (mk_post (l1.trans l2) Z2 (b3 n1 n2 (r1.mono l2) r2) hf hl q)⟩
/-- C(k = v, ..) -/
theorem de_mkK {kws : List Keyword} {gS : List S → List S → List S} (K : Mk X.K C fa) (G : FnG X.prog X.w X.K X.mg X.base CX0 k fa fd ps (spOf X.K ps.length sd)) (hr : Room j X.A) (hgu : X.A.guards = some []) (hkj : k + 1 ≤ j) (hg : Gl X x) (hm : X.mg x = some (.ref C))
    (hb : KwTo X.K fd ps ks 0 gS) (hall : (backToKw pos (keywordEach kws X.env)).all (·.1.isSome) = true) (hks : (backToKw pos (keywordEach kws X.env)).filterMap (·.1) = ks) (hdb : (x == ("__debug__" : Str)) = false)
    (hpl : ((backTo pos (starEach [] X.env)).any (·.1) || (backToKw pos (keywordEach kws X.env)).any (·.1.isNone)) = false)
    (h : DK F X kws ρ M fun ts M2 => ts.length = ks.length ∧ MkD C ps.length sd (gS [] ts) M2 Q) : DE F X (.Call (.Name x p) [] kws pos) ρ M Q := ⟨fun g σ H Z pins s I => by
  obtain ⟨gv, gV, b1, b2, b3⟩ := hb.ex
  refine wpAny_Call_Name_kw (ld_glob I hg hm ?_ hdb)
  refine PySem.W.callWith_KW0 (h₀ := X.base) I.ok.mod.kin K.kp hall ?_ hpl
  refine thn (h.run g σ H Z pos pins s I) fun ws s2 ⟨zs, H2, I2, rz, ts, M2, g2, l2, r2, Z2, n2, hf, hl, q⟩ => ⟨I2.kIn, ?_⟩
  rw [hks]
  have m2 : zs.length = ks.length := by rw [r2.length]; exact n2
  exact run_mk (us := []) K G (hr.mono hkj) hgu (fun s2 y hk => b1 s2 y [] ws hk rfl (rz.length.symm.trans m2)) I2 (b2 (vs := []) rfl m2 .nil rz) (mk_post l2 Z2 (b3 (vs := []) (ss := []) rfl n2 .nil r2) hf hl q)⟩
end
end DL
end

section
set_option Elab.async false
set_option linter.all false
set_option maxRecDepth 100000
set_option maxHeartbeats 2000000
namespace DL
open PySem PySem.Spec PyProof.Rows L2
section
variable {X : Cx} {F : Fc} {ρ : Rho} {M : Mem} {Q : S → Mem → Prop} {N : DEnds} {e : Expr} {pos p : Pos} {x : Str}
abbrev sg (k : Nat) : Str := ⟨#[k]⟩
theorem lc_text {z : Str} {gg : TG} {tt : TT} {te : TE} {vs : List Nat} {σ : L2.St} {H1 : Hp} {D0 : Addr} {Qd : Hp → Prop} (Pv : Nat → Hp → Prop) (h0 : Pv 0 (upd H1 D0 (.lst [])))
    (hs : ∀ i c H, z.cps.toList[i]? = some c → Pv i H → gg (.str (sg c)) (wipe σ vs) H fun σ2 H2 => wipe σ2 vs = wipe σ vs ∧ tt σ2 H2 fun b H3 =>
      if b = true then te σ2 H3 fun y H4 => ∃ acc, H4 D0 = some (.lst acc) ∧ acc.length < sizeLine ∧ Pv (i + 1) (upd H4 D0 (.lst (acc ++ [y]))) else Pv (i + 1) H3) (hd : ∀ H, Pv z.cps.toList.length H → Qd H) :
    ∃ W : Nat → Nat → Hp → Prop, (∃ m, W 0 m (upd H1 D0 (.lst []))) ∧ ∀ i m H, W i m H →
      ((Its z).stop i H ∧ Qd H) ∨ ((Its z).go i H ∧ ∃ Nx : Hp → Prop, (∀ H', Nx H' → ∃ m', m' < m ∧ W (i + 1) m' H') ∧ ∀ x H', (Its z).yld i H x H' → gg x (wipe σ vs) H' fun σ2 H2 => wipe σ2 vs = wipe σ vs ∧ tt σ2 H2 fun b H3 =>
        if b = true then te σ2 H3 fun y H4 => ∃ acc, H4 D0 = some (.lst acc) ∧ acc.length < sizeLine ∧ Nx (upd H4 D0 (.lst (acc ++ [y]))) else Nx H3) := by
  refine ⟨fun i m H => m = z.cps.toList.length - i ∧ i ≤ z.cps.toList.length ∧ Pv i H, ⟨z.cps.toList.length, rfl, Nat.zero_le _, h0⟩, ?_⟩
  rintro i m H ⟨rfl, hi, p⟩
  rcases Nat.lt_or_ge i z.cps.toList.length with hlt | hge
  · right
    refine ⟨(show i < z.cps.size by simpa using hlt), Pv (i + 1), fun H' p' => ⟨z.cps.toList.length - (i + 1), by omega, rfl, hlt, p'⟩, ?_⟩
    rintro x H' ⟨rfl, c, h1, rfl⟩
    exact hs i c _ (by rw [Array.getElem?_toList]; exact h1) p
  · left
    have e : i = z.cps.toList.length := by omega
    subst e
    exact ⟨show z.cps.size ≤ z.cps.toList.length by simp, hd H p⟩
/-- [e for x in z], z a text -/
theorem de_lcS {i : Nat} {px : Pos} {elt iter : Expr} {ifs : List Expr} {scope : Scope} (hc : X.calm = true) (hN : X.N.Nodup) (ok : BlkOk X.N X.env.scope scope [(x, i)])
    (hg : ∀ (s : Shared) (H : Hp) (C : Addr) (cl : List (Str × Addr)) (fp : List Addr), PG (X.blk s H scope (compEnvC scope cl C X.env) fp) (.Name x px) (gName i)) (hs : ∀ x, foldedSetIterable iter X.env x = pure x)
    (h : DE F X iter ρ M fun s M' => ∃ z : Str, s = .d (.str z) ∧ ∃ I : Nat → List D → Mem → Prop, I 0 [] M' ∧ (∀ k c acc M1, z.cps.toList[k]? = some c → I k acc M1 → M1.length = M'.length → LcTurn F X scope ifs elt ((ρ.set i none).set i (some (.d (.str (sg c))))) M'.length acc M1 (fun acc' M4 => I (k + 1) acc' M4) (fun M4 => I (k + 1) acc M4)) ∧
      ∀ acc M1, I z.cps.toList.length acc M1 → M1.length = M'.length → M1.all C.fd = true ∧ Q (.d (.lst acc)) M1) : DE F X (.ListComp elt [⟨.Name x px, iter, ifs, 0⟩] scope pos) ρ M Q := ⟨fun g σ H Z => of_pe (pe_lc (own := [(x, i)]) (g := gName i) (tt := ttA X scope ifs) (te := teA X scope elt) hc hN (pi_str pe_s) ok hg
      (fun s H C cl fp => ⟨fun pins s1 σ H' Q I h => h s H C cl fp pins s1 I⟩) (fun s H C cl fp => ⟨fun pins s1 σ H' Q I h => h s H C cl fp pins s1 I⟩) hs) <|
  tS_mono (h.run g σ H Z) fun v H1 ⟨s, M', g', l, r, Z', z, es, I, i0, turn, done⟩ => by
    subst es
    rw [rep_str r]
    exact ⟨z, rfl, fun D0 hD => lc_text (LcPv X.K F g' D0 (ρ.set i none) (σ.set i none) M'.length I) (lc_start Z' hD i0) (fun k c H2 hk P => lc_step (v := .str (sg c)) (Rep.str _) Z'.ml P fun acc M1 q hl => turn k c acc M1 hk q hl) fun H2 P => lc_end Z' l P done⟩⟩
/-- [.. for ..] all of whose turns give a value, by a word on the items -/
theorem turn_map {scope : Scope} {elt : Expr} {ρ' : Rho} {m k : Nat} {acc : List D} {M1 M0 : Mem} {f : Nat → D} (hz : acc.length < sizeLine) (he : M1 = M0) (hm : M1.length = m) (ha : acc = (List.range k).map f)
    (h : ∀ s H' C cl fp, DE F (Blk X scope s H' C cl fp) elt ρ' (M0 ++ [.lst (acc.map S.d)]) fun t M3 => t = .d (f k) ∧ M3 = M0 ++ [.lst (acc.map S.d)]) :
    LcTurn F X scope [] elt ρ' m acc M1 (fun acc' M4 => acc' = (List.range (k + 1)).map f ∧ M4 = M0) (fun M4 => False) := by
  intro s H' C cl fp
  refine dts_nil ⟨fun _ s H' C cl fp => ?_, fun h => by cases h⟩
  subst he
  have z := h s H' C cl fp
  refine ⟨fun g σ H Z => tS_mono (z.run g σ H Z) fun v H1 ⟨t, M3, g1, l, r, Z1, e1, e2⟩ => ⟨t, M3, g1, l, r, Z1, f k, M1, e1, e2, hm, hz, ?_, rfl⟩⟩
  rw [ha, List.range_succ, List.map_append]
  rfl
end
def kb (T U : String) : Bool := T == U || (T == "bool" && U == "int")
def sixT : List String := ["NoneType", "bool", "int", "str", "list", "tuple"]
theorem kitB_all : sixT.all (fun T => sixT.all fun U => U == "NoneType" || decide (kitB T U = some (kb T U))) = true := by decide +kernel
theorem kitB_kb {T U : String} (h1 : T ∈ sixT) (h2 : U ∈ sixT) (h3 : (U == "NoneType") = false) : kitB T U = some (kb T U) := by
  have z := List.all_eq_true.mp (List.all_eq_true.mp kitB_all T h1) U h2
  rw [h3, Bool.false_or] at z
  exact of_decide_eq_true z
theorem cd_isiK {X : Cx} {F : Fc} {ρ : Rho} {M : Mem} {Q : S → Mem → Prop} {d : D} {T U : String} (h : tyD d = some T) (h1 : T ∈ sixT) (h2 : U ∈ sixT) (h3 : (U == "NoneType") = false) (q : Q (.d (.bl (kb T U))) M) : CD F X (.builtin "isinstance") [.d d, .d (.raw (.ty U))] ρ M Q := cd_isi h (kitB_kb h1 h2 h3) q
theorem tyD_six : ∀ {d : D} {T : String}, tyD d = some T → T ∈ sixT
  | .non, _, h => by cases h; decide
  | .bl _, _, h => by cases h; decide
  | .int _, _, h => by cases h; decide
  | .str _, _, h => by cases h; decide
  | .lst _, _, h => by cases h; decide
  | .tup _, _, h => by cases h; decide
def abc : Str := Str.ofString "abcdefghijklmnopqrstuvwxyz"
section
variable {P : Program} {w : World} {K : PySem.W.Frag} {mg : Str → Option Value} {base : Heap}
/-- .. with defaults -/
theorem fn_okD {dvs : List V} {kws : List (Str × V)} {x qual : Str} {st : Stmt} {f : Addr} {fd : FuncData} {N ps : List Str} {k : Nat} {sd : Sd} (FF : FunD K x qual (defArgs st) (defBody st) (defScope st) dvs kws f fd) (SS : FnScope N ps (defScope st))
    (hbody : ∀ (cdv : Value) (A : Around) (outer : List Env) (s : Shared) (H : Hp) (E : XK) (F : Fc) (ss : List S) (cs : List C) (Q : Rs → List C → Prop), Room k (A.deeper (envOfC qual (defScope st) s.heap.objs.size f cdv)) → (A.deeper (envOfC qual (defScope st) s.heap.objs.size f cdv)).guards = some [] → sd ss cs Q → ss.length = ps.length → F.θ0.length = cs.length →
      DB F (cxOf CX0 P w K mg base N qual (defScope st) f cdv A outer s H E).nox (defBody st) (startS N ss) cs { nx := fun _ M => RetS cs.length (.d .non) M Q, rt := fun t M => RetS cs.length t M Q }) :
    FnG P w K mg base CX0 (k + 1) f fd ps (spOf K ps.length sd) := by
  obtain ⟨oc, od, dV, kV, dc, pm, an, cdv, ct, osl, rfl, lk, hcd, _, _⟩ := FF.ex
  refine fnG_of lk hcd SS (fun vs H Q E h => h.1) (fun A outer s H vs Q E hr hgu h => ?_)
  obtain ⟨hl, ss, cs, G, as, r, l, hc, nd, ga, Q0, hsd, hQ⟩ := h
  have Z : Sim K ⟨H, G, as⟩ ⟨G, as⟩ (startS N ss) cs (L2.start N vs) H := sim_start r l hc nd ga
  have B := hbody cdv A outer s H E ⟨H, G, as⟩ ss cs _ hr hgu hsd (by rw [← r.length, hl]) hc.1.symm
  refine ⟨_, (pb_s (X := (cxOf CX0 P w K mg base N qual (defScope st) f cdv A outer s H E).nox)).nox, sB_mono (B.run _ _ _ Z) ⟨fun σ' H' ⟨ρ', M', g', lg, Z', q⟩ => ?_, fun v H' ⟨t, ρ', M', σ', g', lg, rv, Z', q⟩ => ?_, fun _ _ ⟨_, _, _, _, _, q⟩ => q, fun _ _ ⟨_, _, _, _, _, q⟩ => q⟩⟩
  · obtain ⟨hf, q⟩ := q
    rw [hc.1] at hf q
    obtain ⟨A1, C1⟩ := sim_end Z' hf
    rcases q with ⟨y, ey, q⟩ | ⟨n, c, ey, _⟩
    · cases ey
      exact hQ _ _ q .non H' g'.G A1 C1 Rep.non
    · cases ey
  · obtain ⟨hf, q⟩ := q
    rw [hc.1] at hf q
    obtain ⟨A1, C1⟩ := sim_end Z' hf
    rcases q with ⟨y, ey, q⟩ | ⟨n, c, ey, hn, em, hcf, q⟩
    · subst ey
      exact hQ _ _ q v H' g'.G A1 C1 rv
    · subst ey
      obtain ⟨a, rfl, ea⟩ := rv
      obtain ⟨ll, el⟩ := Z'.pre
      have a0 : a ∉ as := fun h => by
        obtain ⟨j, hj, ej⟩ := List.getElem_of_mem h
        have el : g'.θ = as ++ ll := el
        have q : g'.θ[j]? = some a := by
          rw [el, List.getElem?_append_left hj, List.getElem?_eq_getElem hj, ej]
        have := nodup_get Z'.nd q ea
        omega
      exact hQ _ _ q (.ref a) H' g'.G A1 C1 ⟨a, rfl, (Z'.own a (List.mem_of_getElem? ea)).resolve_left a0, (Z'.go n c a em ea).resolve_left (flat_dead hcf), hcf, (Z'.ob n c a em ea).flat hcf⟩
end
end DL
end

section
set_option Elab.async false
set_option linter.all false
set_option maxRecDepth 100000
set_option maxHeartbeats 2000000
namespace DL
open PySem PySem.Spec PyProof.Rows L2
/-! ### == and != of data -/
theorem rep_dp {K : PySem.W.Frag} {G H : Hp} (l : Le G H) : ∀ n, (∀ d : D, sizeOf d < n → ∀ v, okD d = true → Rep K G v d → Dp K H v (pyD d)) ∧ ∀ ds : List D, sizeOf ds < n → ∀ vs, okDs ds = true → RepL K G vs ds → DpAll K H vs (pyDs ds) := by
  intro n
  induction n with
  | zero => exact ⟨fun _ h => absurd h (Nat.not_lt_zero _), fun _ h => absurd h (Nat.not_lt_zero _)⟩
  | succ n ih =>
    refine ⟨fun d hd v ok r => ?_, fun ds hd vs ok r => ?_⟩
    · cases r with
      | non => exact .non
      | bl b => exact .bl b
      | int i => exact .int i
      | str x => exact .str x
      | @lst a xs ds h1 h2 =>
        rw [pyD]
        exact .lst (le_l l h1) (ih.2 ds (by simp at hd; omega) xs (by simpa [okD] using ok) h2)
      | @tup a xs ds h1 h2 =>
        rw [pyD]
        exact .tup (le_t l h1) (ih.2 ds (by simp at hd; omega) xs (by simpa [okD] using ok) h2)
      | _ => simp [okD] at ok
    · cases r with
      | nil => rw [pyDs]; exact .nil
      | @cons v vs d ds h t =>
        have ok : okD d = true ∧ okDs ds = true := by simpa [okDs] using ok
        rw [pyDs]
        exact .cons (ih.1 d (by simp at hd; omega) v ok.1 h) (ih.2 ds (by simp at hd; omega) vs ok.2 t)
section
variable {X : Cx} {F : Fc} {ρ : Rho} {M : Mem} {Q : S → Mem → Prop}
theorem view_dp {g : Gh} {σ : L2.St} {H : Hp} {s : S} {d : D} {v : V} (Z : Sim X.K F g ρ M σ H) (r : RepS X.K g v s) (hv : view M s = some d) (ok : okD d = true) : Dp X.K H v (pyD d) := by
  cases s with
  | d x =>
    have e : x = d := Option.some.inj hv
    subst e
    exact (rep_dp Z.sub _).1 x (Nat.lt_succ_self _) v ok r
  | p n =>
    obtain ⟨a, rfl, ea⟩ := r
    cases e : M[n]? with
    | none => simp [view, viewC, e] at hv
    | some c =>
      cases c with
      | lst ss =>
        simp only [view, viewC, e] at hv
        obtain ⟨ds, hd, rfl⟩ := Option.map_eq_some_iff.mp hv
        obtain ⟨xs, h1, h2⟩ := Z.ob n _ a e ea
        rw [pyD]
        exact .lst (SqL.of h1) ((rep_dp Z.sub _).2 ds (Nat.lt_succ_self _) xs (by simpa [okD] using ok) (repSs_datas h2 hd))
      | _ => simp [view, viewC, e] at hv
theorem bd_eqV {x y : S} {d e : D} (hu : X.A.units + 64 < cLine) (hx : view M x = some d) (hy : view M y = some e) (o1 : okD d = true) (o2 : okD e = true) (s1 : SeqAt.shaped (pyD d) = true) (s2 : SeqAt.shaped (pyD e) = true) (q : Q (.d (.bl (PyData.eqv (pyD d) (pyD e)))) M) : BD F X (compareOp .Eq) x y ρ M Q := bd_of (op_eqD hu) fun g σ H u v Z ru rv =>
  ⟨pyD d, pyD e, view_dp Z ru hx o1, view_dp Z rv hy o2, s1, s2, post_at Z rsB q⟩
theorem bd_neV {x y : S} {d e : D} (hu : X.A.units + 64 < cLine) (hx : view M x = some d) (hy : view M y = some e) (o1 : okD d = true) (o2 : okD e = true) (s1 : SeqAt.shaped (pyD d) = true) (s2 : SeqAt.shaped (pyD e) = true) (q : Q (.d (.bl (!PyData.eqv (pyD d) (pyD e)))) M) : BD F X (compareOp .NotEq) x y ρ M Q := bd_of (op_neD hu) fun g σ H u v Z ru rv =>
  ⟨pyD d, pyD e, view_dp Z ru hx o1, view_dp Z rv hy o2, s1, s2, post_at Z rsB q⟩
end
section
variable {X : Cx} {F : Fc} {ρ : Rho} {M : Mem} {Q : S → Mem → Prop} {a : Expr} {pos : Pos}
theorem de_neg (h : DE F X a ρ M fun s M1 => ∃ i, s = .d (.int i) ∧ Q (.d (.int (-i))) M1) : DE F X (.UnaryOp .USub a pos) ρ M Q := ⟨fun g σ H Z => of_pe (pe_un un_neg pe_s) <|
  tS_mono (h.run g σ H Z) fun v H1 ⟨s, M1, g1, l, r, Z1, i, es, q⟩ => by
    subst es
    exact ⟨i, rep_int r, .d (.int (-i)), M1, g1, l, rsI, Z1, q⟩⟩
end
end DL
end

section
set_option Elab.async false
set_option linter.all false
set_option maxRecDepth 100000
set_option maxHeartbeats 2000000
namespace DL
open PySem PySem.Spec PyProof.Rows L2
open AutoSeq1 (wpAny_loadPart')
section
variable {prog : Program} {w : World} {A : Around} {E : Value → Shared → Prop} {s : Shared} {K : PySem.W.Frag} {x C dx : Addr}
/-- not there: what a built-in __eq__ gives that does not know the other -/
abbrev NiQ (s : Shared) : Fin → Shared → Prop := fun fin s' => fin = .done (.ret .notImplemented) ∧ s' = s
theorem ni_int {i : Int} {t : Tok} (h : s.heap.get? x = some (PySem.W.instObj C dx)) : wpAny (model prog w) A (Builtin.«int.__eq__» ⟨[.int i t, .ref x], []⟩) (NiQ s) E s := by
  obtain ⟨hp, g, d, tk, os⟩ := s
  wp_walk using wpAny_loadPart' h
  exact ⟨rfl, rfl⟩
theorem ni_bool {i : Bool} (h : s.heap.get? x = some (PySem.W.instObj C dx)) : wpAny (model prog w) A (Builtin.«int.__eq__» ⟨[.bool i, .ref x], []⟩) (NiQ s) E s := by
  obtain ⟨hp, g, d, tk, os⟩ := s
  wp_walk using wpAny_loadPart' h
  exact ⟨rfl, rfl⟩
theorem ni_str {i : Str} {t : Tok} (h : s.heap.get? x = some (PySem.W.instObj C dx)) : wpAny (model prog w) A (Builtin.«str.__eq__» ⟨[.str i t, .ref x], []⟩) (NiQ s) E s := by
  obtain ⟨hp, g, d, tk, os⟩ := s
  wp_walk using wpAny_loadPart' h
  exact ⟨rfl, rfl⟩
theorem ni_none : wpAny (model prog w) A (Builtin.«NoneType.__eq__» ⟨[.none, .ref x], []⟩) (NiQ s) E s := by
  obtain ⟨hp, g, d, tk, os⟩ := s
  wp_walk
  exact ⟨rfl, rfl⟩
theorem mro_of {base : Value} (X : K.In s.heap) (e : PySem.W.mroIn K C base = some false) : ∃ l : List Value, l.isEmpty = false ∧ l.contains base = false ∧ PySem.W.Looks (model prog w) s.heap (mroOf (.ref C)) l := by
  obtain ⟨cd, hc, b⟩ := Option.bind_eq_some_iff.mp e
  split at b
  · cases b
  · rename_i q
    exact ⟨cd.mro, by simpa using q, Option.some.inj b, (PySem.W.looks_clsIn X hc).andThen .now⟩
theorem ni_list {a : Addr} (X : K.In s.heap) (h : s.heap.get? x = some (PySem.W.instObj C dx)) (e : PySem.W.mroIn K C (.type "list") = some false) : wpAny (model prog w) A (Builtin.«list.__eq__» ⟨[.ref a, .ref x], []⟩) (NiQ s) E s := by
  obtain ⟨l, l1, l2, hs⟩ := mro_of (prog := prog) (w := w) X e
  obtain ⟨hp, g, d, tk, os⟩ := s
  wp_walk using wpAny_loadPart' h
  refine wpAny_bind (hs.here ?_)
  show wpAny _ _ (if l.isEmpty = true then _ else _) _ _ _
  rw [l1, l2]
  wp_walk
  exact ⟨rfl, rfl⟩
theorem ni_tup {a : Addr} (X : K.In s.heap) (h : s.heap.get? x = some (PySem.W.instObj C dx)) (e : PySem.W.mroIn K C (.type "tuple") = some false) : wpAny (model prog w) A (Builtin.«tuple.__eq__» ⟨[.ref a, .ref x], []⟩) (NiQ s) E s := by
  obtain ⟨l, l1, l2, hs⟩ := mro_of (prog := prog) (w := w) X e
  obtain ⟨hp, g, d, tk, os⟩ := s
  wp_walk using wpAny_loadPart' h
  refine wpAny_bind (hs.here ?_)
  show wpAny _ _ (if l.isEmpty = true then _ else _) _ _ _
  rw [l1, l2]
  wp_walk
  exact ⟨rfl, rfl⟩
theorem ni_dict {a : Addr} (X : K.In s.heap) (h : s.heap.get? x = some (PySem.W.instObj C dx)) (e : PySem.W.mroIn K C (.type "dict") = some false) : wpAny (model prog w) A (Builtin.«dict.__eq__» ⟨[.ref a, .ref x], []⟩) (NiQ s) E s := by
  obtain ⟨l, l1, l2, hs⟩ := mro_of (prog := prog) (w := w) X e
  obtain ⟨hp, g, d, tk, os⟩ := s
  wp_walk using wpAny_loadPart' h
  refine wpAny_bind (hs.here ?_)
  show wpAny _ _ (if l.isEmpty = true then _ else _) _ _ _
  rw [l1, l2]
  wp_walk
  exact ⟨rfl, rfl⟩
end
section
variable {prog : Program} {w : World} {A : Around} {E : Value → Shared → Prop} {s : Shared} {K : PySem.W.Frag} {x C dx f : Addr} {ox : Obj} {od : Option Obj}
theorem one_ref_r {op : CmpOp} {u : Value} {T : String} (hT : s.TypeIs u T) : oneThing? op u (.ref x) = none := hT.oneThing_none op _
/-- u == x, u of a built-in type whose own == does not know x: the == of x's class answers -/
theorem rc_refl {u : Value} {T id : String} {B : Builtin} {Q : Value → Shared → Prop} (hu : A.units < cLine) (X : K.In s.heap) (I : PySem.W.InstAt s.heap x ox C od) (hT : s.TypeIs u T) (sl : Slot T "__eq__" id) (ent : entryFor table id = some B) (args : argsOk id ⟨[u, .ref x], []⟩)
    (hB : wpAny (model prog w) A.in1 (B ⟨[u, .ref x], []⟩) (NiQ s) E s) (hno : PySem.W.mroIn K C (.type T) = some false)
    (hs : PySem.W.findIn K (.ref C) "__eq__" = some (some (.ref f))) (hf : PySem.W.isFn K (.ref f) = true)
    (h : wpAny (model prog w) A (call (.ref f) [.ref x, u]) (PySem.W.CmpBack Q) E s) : wpAny (model prog w) A (richCompare .Eq u (.ref x)) Q E s := by
  have two : wpAny (model prog w) A (tryCompare (.ref x) "__eq__" u) (fun r s' => ∃ v, r = some v ∧ Q v s') E s := by
    unfold tryCompare
    refine wpAny_bind (PySem.W.ifBound_K X I hs hf (wpAny_mono h (fun v s' hv => ?_) fun _ _ e => e))
    cases v <;> first | exact hv.elim | exact wpAny_pure ⟨_, rfl, hv⟩
  have one : wpAny (model prog w) A (tryCompare u "__eq__" (.ref x)) (fun r s' => r = none ∧ s' = s) E s := by
    simp only [tryCompare]
    refine wpAny_bind (wpAny_callSpecialIfBound?_slot hT sl (wpAny_call_entry sl hT ent (wpAny_mono hB (fun fin s' q => ?_) fun _ _ e => e) args))
    obtain ⟨rfl, rfl⟩ := q
    exact ⟨_, rfl, wpAny_pure ⟨rfl, rfl⟩⟩
  simp only [richCompare, cmpInfo_Eq, one_ref_r hT]
  refine wpAny_holding (wpAny_bind (wpAny_cRoomFor hu ?_))
  refine wpAny_bind (wpAny_typeOf hT (wpAny_bind (I.type.here ?_)))
  have q : (Value.type T != Value.ref C) = true := by rfl
  rw [if_pos q]
  refine wpAny_bind ((PySem.W.looks_mroIn X hno).here ?_)
  simp only [Bool.false_eq_true, if_false]
  refine wpAny_bind (wpAny_mono one (fun r s' z => ?_) fun _ _ e => e)
  obtain ⟨rfl, rfl⟩ := z
  simp only [Bool.not_false, if_true]
  refine wpAny_bind (wpAny_mono two (fun r s' z => ?_) fun _ _ e => e)
  obtain ⟨v, rfl, hq⟩ := z
  exact wpAny_pure hq
end

/-! ### the type of data, also of dicts and instances -/
inductive TyY (K : PySem.W.Frag) (H : Hp) : V → Value → Prop where
  | x {v : V} {t : Value} (h : TyX K H v t) : TyY K H v t
  | fdT {a : Addr} {o : Obj} {kvs : List (List Key × V)} (e : H a = some (.frz o (.dT kvs))) : TyY K H (.ref a) (.type "dict")
section
variable {X : Cx} {pins : List (Addr × Obj)} {σ : L2.St} {H : Hp} {s : Shared}
theorem kit_ofY {x : V} {u t : Value} (I : Inv X pins σ H s) (rx : RelV x u) (ty : TyY X.K H x t) : ∃ P : Heap → Prop, PySem.W.KitX X.K u t P ∧ P s.heap ∧ u ≠ .builtin "__main__.__loader__#opaque" := by
  cases ty with
  | x h => exact kit_of I rx h
  | @fdT a ob kvs ea =>
    cases (show u = Value.ref a from rx)
    obtain ⟨_, _, _, xs, _, o, es, ep, h1, h2, _⟩ := (show ObjOk X.prog X.w H s.heap a (.frz ob (.dT kvs)) from I.hok a _ ea)
    exact ⟨_, PySem.W.kitx_dict, ⟨o, h1, h2.1⟩, fun z => nomatch z⟩
theorem tyIs_of {x : V} {u : Value} {T : String} (I : Inv X pins σ H s) (rx : RelV x u) (ty : TyY X.K H x (.type T)) : s.TypeIs u T := by
  cases ty with
  | @fdT a ob kvs ea =>
    cases (show u = Value.ref a from rx)
    obtain ⟨_, _, _, xs, _, o, es, ep, h1, h2, _⟩ := (show ObjOk X.prog X.w H s.heap a (.frz ob (.dT kvs)) from I.hok a _ ea)
    exact ⟨o, h1, h2.1⟩
  | x h =>
    cases h with
    | base b =>
      cases b with
      | non => cases (show u = Value.none from rx); rfl
      | bl y => cases (show u = Value.bool y from rx); rfl
      | int i => obtain ⟨t, q⟩ := (show ∃ t, u = Value.int i t from rx); cases q; rfl
      | str y => obtain ⟨t, q⟩ := (show ∃ t, u = Value.str y t from rx); cases q; rfl
      | flt y => obtain ⟨t, q⟩ := (show ∃ t, u = Value.float y t from rx); cases q; rfl
      | @lst a xs ea =>
        cases (show u = Value.ref a from rx)
        obtain ⟨_, _, n, _, h1⟩ := (show ObjOk X.prog X.w H s.heap a (.lst xs) from I.hok a _ ea)
        exact ⟨_, h1, rfl⟩
      | @frz a ob xs ea =>
        cases (show u = Value.ref a from rx)
        obtain ⟨_, _, _, n, _, h1⟩ := (show ObjOk X.prog X.w H s.heap a (.frz ob (.lst xs)) from I.hok a _ ea)
        exact ⟨_, h1, rfl⟩
      | @tup a xs ea =>
        cases (show u = Value.ref a from rx)
        obtain ⟨_, _, _, o, h1, h2, _⟩ := (show ObjOk X.prog X.w H s.heap a (.tup xs) from I.hok a _ ea)
        exact ⟨o, h1, h2⟩
      | @dK a kvs ea =>
        cases (show u = Value.ref a from rx)
        obtain ⟨_, _, vs, _, o, es, ep, h1, h2, _⟩ := (show ObjOk X.prog X.w H s.heap a (.dK kvs) from I.hok a _ ea)
        exact ⟨o, h1, h2.1⟩
      | @dT a kvs ea =>
        cases (show u = Value.ref a from rx)
        obtain ⟨_, _, xs, _, o, es, ep, h1, h2, _⟩ := (show ObjOk X.prog X.w H s.heap a (.dT kvs) from I.hok a _ ea)
        exact ⟨o, h1, h2.1⟩
    | byt y => obtain ⟨t, q⟩ := (show ∃ t, u = Value.bytes y t from rx); cases q; rfl
    | @set a S n ea =>
      cases (show u = Value.ref a from rx)
      obtain ⟨o, _, _, _, e, ex, _⟩ := I.hok a _ ea
      exact ⟨o, e, ex.1⟩
    | @kList a o e c =>
      cases (show u = Value.ref a from rx)
      exact ⟨o, I.kIn a o e, c⟩
    | @kTuple a o e c =>
      cases (show u = Value.ref a from rx)
      exact ⟨o, I.kIn a o e, c⟩
    | @kDict a o e c =>
      cases (show u = Value.ref a from rx)
      exact ⟨o, I.kIn a o e, c⟩
    | @fTuple a ob xs ea =>
      cases (show u = Value.ref a from rx)
      obtain ⟨_, _, _, _, o, h1, h2, _⟩ := (show ObjOk X.prog X.w H s.heap a (.frz ob (.tup xs)) from I.hok a _ ea)
      exact ⟨o, h1, h2⟩
    | @fDict a ob kvs ea =>
      cases (show u = Value.ref a from rx)
      obtain ⟨_, _, _, vs, _, o, es, ep, h1, h2, _⟩ := (show ObjOk X.prog X.w H s.heap a (.frz ob (.dK kvs)) from I.hok a _ ea)
      exact ⟨o, h1, h2.1⟩
end
/-- what a class of the text must have, so that its instances are told from other things -/
structure OwnC (K : PySem.W.Frag) (C : Addr) : Prop where
  cl : Cls K C
  ha : PySem.W.findIn K (.ref C) "__class__" = some (some (.builtin "object.__class__"))
  hn : PySem.W.specialIn K (.builtin "object.__class__") "__get__" = some (some (.builtin "getset_descriptor.__get__"))
  htk : PySem.W.takesIn K (.builtin "object.__class__") = some true
  hm : PySem.W.mroIn K C (.type "object") = some true
def tyE (C : Addr) : D → Option Value
  | .ins C2 _ => if C2 = C then some (.ref C) else none
  | .dT _ => some (.type "dict")
  | d => (tyD d).map Value.type
theorem tyE_of {C : Addr} {d : D} {T : String} (h : tyD d = some T) : tyE C d = some (.type T) := by
  cases d <;> first | (rw [tyE]; rw [h]; rfl) | (simp [tyD] at h) | skip
  all_goals (simp [tyE, h])
theorem tyE_ty {C : Addr} : ∀ {d : D} {T : String}, tyE C d = some (.type T) → tyD d = some T ∨ (T = "dict" ∧ ∃ k, d = .dT k)
  | .ins C2 _, T, h => by
    rw [tyE] at h
    split at h <;> cases h
  | .dT k, T, h => by cases h; exact .inr ⟨rfl, k, rfl⟩
  | .non, T, h => by cases h; exact .inl rfl
  | .bl _, T, h => by cases h; exact .inl rfl
  | .int _, T, h => by cases h; exact .inl rfl
  | .str _, T, h => by cases h; exact .inl rfl
  | .lst _, T, h => by cases h; exact .inl rfl
  | .tup _, T, h => by cases h; exact .inl rfl
  | .dK _, T, h => by cases h
  | .raw _, T, h => by cases h
theorem tyE_rep {K : PySem.W.Frag} {F : Fc} {ρ : Rho} {M : Mem} {g : Gh} {σ : L2.St} {H : Hp} {v : V} {C : Addr} (O : OwnC K C) (Z : Sim K F g ρ M σ H) {d : D} {t : Value} (h : tyE C d = some t) (r : RepS K g v (.d d)) : TyY K H v t := by
  cases d with
  | ins C2 fs =>
    rw [tyE] at h
    split at h
    · rename_i e
      subst e
      cases h
      cases (show Rep K g.G v (.ins C2 fs) from r) with
      | @ins a _ dx vs _ h1 h2 => exact .x (.base (.ins (Z.sub _ _ h1) O.cl O.ha O.hn O.htk O.hm))
    · cases h
  | dT k =>
    cases h
    cases (show Rep K g.G v (.dT k) from r) with
    | @dT a o kvs _ h1 h2 => exact .fdT (Z.sub _ _ h1)
  | raw _ => cases h
  | dK _ => cases h
  | non => cases h; exact .x (tyD_rep Z rfl r)
  | bl _ => cases h; exact .x (tyD_rep Z rfl r)
  | int _ => cases h; exact .x (tyD_rep Z rfl r)
  | str _ => cases h; exact .x (tyD_rep Z rfl r)
  | lst _ => cases h; exact .x (tyD_rep Z rfl r)
  | tup _ => cases h; exact .x (tyD_rep Z rfl r)
section
variable {X : Cx} {F : Fc} {ρ : Rho} {M : Mem} {Q : S → Mem → Prop}
/-- isinstance(d, C), C a class of the text -/
theorem cd_isiC {C : Addr} {d : D} {t : Value} {b : Bool} (O : OwnC X.K C) (h : tyE C d = some t) (hk : PySem.W.kitOne X.K t (.ref C) = some b) (q : Q (.d (.bl b)) M) : CD F X (.builtin "isinstance") [.d d, .d (.raw (.ref C))] ρ M Q := ⟨fun g σ H us Z ru pins s σ2 ws I r => by
  obtain ⟨v, w, rfl, rv, rw'⟩ := ss2 ru
  obtain ⟨u1, u2, rfl, r1, r2⟩ := vals2 r
  have e : w = .ref C := rep_raw rw'
  subst e
  cases (show u2 = Value.ref C from r2)
  obtain ⟨P, Zk, p, hx⟩ := kit_ofY I r1 (tyE_rep O Z h rv)
  exact PySem.W.kia_one Zk I.kIn p hk hx fun tk => ⟨.bl b, H, I.tok tk, rfl, post_at Z rsB q⟩⟩
/-! ### == by an own __eq__ -/
structure EqC (P : Program) (w : World) (K : PySem.W.Frag) (mg : Str → Option Value) (base : Heap) (C : Addr) (k : Nat) (sd : Sd) : Prop where
  ex : ∃ fa fd, PySem.W.findIn K (.ref C) "__eq__" = some (some (.ref fa)) ∧ PySem.W.isFn K (.ref fa) = true ∧ FnG P w K mg base CX0 k fa fd ["self", "other"] (spOf K 2 sd) ∧ Binds K fd ["self", "other"] []
theorem cmpBack {X : Cx} {pins : List (Addr × Obj)} {σ : L2.St} {R : VK} {u : Value} {s : Shared} (h : EP X pins σ R u s) : PySem.W.CmpBack (EP X pins σ R) u s := by
  obtain ⟨v, H, I, r, q⟩ := id h
  cases u with
  | notImplemented => cases v <;> first | exact absurd r (by simp [L2.RelV]) | (obtain ⟨_, e⟩ := r; cases e) | cases r
  | _ => exact h
/-- x == y, x of the class -/
theorem bd_eqL {C : Addr} {k : Nat} {sd : Sd} {fs : List (Str × D)} {d : D} {t : Value} (O : OwnC X.K C) (E : EqC X.prog X.w X.K X.mg X.base C k sd) (hr : Room k X.A) (hgu : X.A.guards = some []) (ht : tyE C d = some t) (hn : PySem.W.notFirst X.K C t = true)
    (h : SpD F X (spOf X.K 2 sd) [] [.d (.ins C fs), .d d] ρ M Q) : BD F X (compareOp .Eq) (.d (.ins C fs)) (.d d) ρ M Q := ⟨fun g σ H v w Z rv rw' pins s σ2 u1 u2 I r1 r2 => by
  obtain ⟨fa, fd, hs, hf, G, hb⟩ := E.ex
  have r0 : Rep X.K g.G v (.ins C fs) := rv
  cases r0 with
  | @ins a _ dx vs _ h1 h2 =>
    cases (show u1 = Value.ref a from r1)
    obtain ⟨mA, J, _⟩ := ins_get I.hok (Z.sub _ _ h1)
    obtain ⟨od, J, _⟩ := J.look
    obtain ⟨P, Zk, p, hx⟩ := kit_ofY I r2 (tyE_rep O Z ht rw')
    obtain ⟨m, hF⟩ := I.fr
    refine PySem.W.cmp_K (op := .Eq) (tb := t) hr.units0 hF I.ok.mod.kin J (Zk.ty _ _ I.kIn p) hn hs hf ?_
    refine wpAny_mono (runG (us := [.ref a, u2]) (vs := [.ref a, w]) (ds := []) (dvs := []) G hr hgu hb .nil I (.cons rfl (.cons r2 .nil)) (h.run g g σ H _ (Gle.refl g) Z (.cons rv (.cons rw' .nil)))) (fun _ _ q => cmpBack q) fun _ _ e => e⟩
/-- x == y, y of the class, x of a built-in type -/
theorem bd_eqR {C : Addr} {k : Nat} {sd : Sd} {fs : List (Str × D)} {d : D} {T : String} (O : OwnC X.K C) (E : EqC X.prog X.w X.K X.mg X.base C k sd) (hr : Room k X.A) (hgu : X.A.guards = some []) (ht : tyE C d = some (.type T)) (hn : PySem.W.mroIn X.K C (.type T) = some false)
    (h : SpD F X (spOf X.K 2 sd) [] [.d (.ins C fs), .d d] ρ M Q) : BD F X (compareOp .Eq) (.d d) (.d (.ins C fs)) ρ M Q := ⟨fun g σ H w v Z rw' rv pins s σ2 u2 u1 I r2 r1 => by
  obtain ⟨fa, fd, hs, hf, G, hb⟩ := E.ex
  have r0 : Rep X.K g.G v (.ins C fs) := rv
  cases r0 with
  | @ins a _ dx vs _ h1 h2 =>
    cases (show u1 = Value.ref a from r1)
    obtain ⟨mA, J0, _⟩ := ins_get I.hok (Z.sub _ _ h1)
    have hx := J0.obj
    obtain ⟨od, J, _⟩ := J0.look
    have ti := tyIs_of I r2 (tyE_rep O Z ht rw')
    have fin : wpAny (model X.prog X.w) X.A (call (.ref fa) [.ref a, u2]) (PySem.W.CmpBack (EP X pins σ2 (Post X.K F ρ σ g Q))) X.xe s :=
      wpAny_mono (runG (us := [.ref a, u2]) (vs := [.ref a, w]) (ds := []) (dvs := []) G hr hgu hb .nil I (.cons rfl (.cons r2 .nil)) (h.run g g σ H _ (Gle.refl g) Z (.cons rv (.cons rw' .nil)))) (fun _ _ q => cmpBack q) fun _ _ e => e
    have u := hr.units0
    show wpAny (model X.prog X.w) X.A (richCompare .Eq u2 (.ref a)) _ _ _
    rcases tyE_ty ht with ht2 | ⟨rfl, kk, rfl⟩
    · cases d with
      | non =>
        cases ht2
        cases (show Rep X.K g.G w .non from rw')
        cases (show u2 = Value.none from r2)
        exact rc_refl u I.kIn J ti PySem.F.slot_NoneType_eq PySem.F.entry_NoneType_eq (PySem.F.args_NoneType_eq_2 _ _) ni_none hn hs hf fin
      | bl b =>
        cases ht2
        rw [rep_bl rw'] at r2
        cases (show u2 = Value.bool b from r2)
        exact rc_refl u I.kIn J ti PySem.F.slot_bool_eq PySem.F.entry_int_eq (PySem.F.args_int_eq_2 _ _) (ni_bool hx) hn hs hf fin
      | int i =>
        cases ht2
        rw [rep_int rw'] at r2
        obtain ⟨t, q⟩ := (show ∃ t, u2 = Value.int i t from r2)
        cases q
        exact rc_refl u I.kIn J ti PySem.F.slot_int_eq PySem.F.entry_int_eq (PySem.F.args_int_eq_2 _ _) (ni_int hx) hn hs hf fin
      | str z =>
        cases ht2
        rw [rep_str rw'] at r2
        obtain ⟨t, q⟩ := (show ∃ t, u2 = Value.str z t from r2)
        cases q
        exact rc_refl u I.kIn J ti PySem.F.slot_str_eq PySem.F.entry_str_eq (PySem.F.args_str_eq_2 _ _) (ni_str hx) hn hs hf fin
      | lst ds =>
        cases ht2
        cases (show Rep X.K g.G w (.lst ds) from rw') with
        | @lst b xs _ q1 q2 =>
          cases (show u2 = Value.ref b from r2)
          exact rc_refl u I.kIn J ti PySem.F.slot_list_eq PySem.F.entry_list_eq (PySem.F.args_list_eq_2 _ _) (ni_list I.kIn hx hn) hn hs hf fin
      | tup ds =>
        cases ht2
        cases (show Rep X.K g.G w (.tup ds) from rw') with
        | @tup b xs _ q1 q2 =>
          cases (show u2 = Value.ref b from r2)
          exact rc_refl u I.kIn J ti PySem.F.slot_tuple_eq PySem.F.entry_tuple_eq (PySem.F.args_tuple_eq_2 _ _) (ni_tup I.kIn hx hn) hn hs hf fin
      | ins _ _ => cases ht2
      | dT _ => cases ht2
      | raw _ => cases ht2
      | dK _ => cases ht2
    · cases (show Rep X.K g.G w (.dT kk) from rw') with
      | @dT b o kvs _ q1 q2 =>
        cases (show u2 = Value.ref b from r2)
        exact rc_refl u I.kIn J ti PySem.F.slot_dict_eq PySem.F.entry_dict_eq (PySem.F.args_dict_eq_2 _ _) (ni_dict I.kIn hx hn) hn hs hf fin⟩
end
end DL
end

section
set_option Elab.async false
set_option linter.all false
set_option maxRecDepth 100000
set_option maxHeartbeats 2000000
namespace DL
open PySem PySem.Spec PyProof.Rows L2
/-! ### slices of tuples, sums of tuples and lists, in, None, list(x), d.get, enumerate of a list -/
section
variable {X : Cx} {F : Fc} {ρ : Rho} {M : Mem} {Q : S → Mem → Prop} {N : DEnds} {e o : Expr} {es : List Expr} {pos p tp apos cpos : Pos}
theorem cutL_all {α : Type} {xs : List α} {lo hi : Option Int} (h : HT.sIx xs.length 0 lo = 0 ∧ HT.sIx xs.length xs.length hi = xs.length) : cutL xs lo hi = xs := by
  unfold cutL
  rw [h.1, h.2]
  simp
theorem ld_tup {ds : List D} {lo hi : Option Int} (q : Q (.d (.tup (cutL ds lo hi))) M) : LD F X (.d (.tup ds)) lo hi ρ M Q := ⟨fun g σ H u Z r pins s σ' v vl vu sl I rx hs pl pu => sl_tupA pins s σ' H u v vl vu lo hi sl _ I rx hs pl pu (by
  obtain ⟨a, xs, rfl, h1, h2⟩ := Z.tup r
  refine ⟨a, xs, rfl, h1, fun hw => ?_, fun hw => ?_⟩
  · rw [h2.length] at hw
    rw [cutL_all hw] at q
    exact post_at Z r q
  · exact post_newT Z (Gle.refl g) (repL_cut h2) q)⟩
theorem ld_lst {s : S} {ds : List D} {lo hi : Option Int} (hv : view M s = some (.lst ds)) (q : Q (.d (.lst (cutL ds lo hi))) M) : LD F X s lo hi ρ M Q := ⟨fun g σ H u Z r pins s σ' v vl vu sl I rx hs pl pu => sl_list pins s σ' H u v vl vu lo hi sl _ I rx hs pl pu (by
  obtain ⟨a, xs, rfl, h1, h2⟩ := Z.lst r hv
  exact ⟨a, xs, rfl, h1, post_new Z (Gle.refl g) (repL_cut h2) q⟩)⟩
theorem repL_app {K : PySem.W.Frag} {G : Hp} : ∀ {vs us : List V} {ss ts : List D}, RepL K G vs ss → RepL K G us ts → RepL K G (vs ++ us) (ss ++ ts)
  | _, _, _, _, .nil, r => r
  | _, _, _, _, .cons h t, r => .cons h (repL_app t r)
theorem bd_addT {ds es : List D} (hl : ds.length + es.length ≤ sizeLine) (q : Q (.d (.tup (ds ++ es))) M) : BD F X (binaryOp .Add) (.d (.tup ds)) (.d (.tup es)) ρ M Q := bd_of op_catA fun g σ H u v Z ru rv => by
  obtain ⟨a, xs, rfl, h1, h2⟩ := Z.tup ru
  obtain ⟨b, ys, rfl, k1, k2⟩ := Z.tup rv
  have l1 := h2.length
  have l2 := k2.length
  refine ⟨a, b, xs, ys, rfl, rfl, h1, k1, by rw [l1, l2]; exact hl, fun e => ?_, fun _ e => ?_, fun _ _ => ?_⟩
  · subst e
    have e2 : ds = [] := List.length_eq_zero_iff.mp l1.symm
    subst e2
    exact post_at Z rv q
  · subst e
    have e2 : es = [] := List.length_eq_zero_iff.mp l2.symm
    subst e2
    rw [List.append_nil] at q
    exact post_at Z ru q
  · exact post_newT Z (Gle.refl g) (repL_app h2 k2) q
def rCatD (K : PySem.W.Frag) : R2 := fun x y H Q => ∃ l b xs zs, x = .ref l ∧ y = .ref b ∧ SqL K H l xs ∧ SqL K H b zs ∧ xs.length + zs.length ≤ sizeLine ∧ ∀ p, H p = none → Q (.ref p) (upd H p (.lst (xs ++ zs)))
theorem op_catD : OpR X (binaryOp .Add) (rCatD X.K) := by
  intro pins s σ H x y v u Q I rx ry h
  obtain ⟨l, b, xs, zs, rfl, rfl, hH, hB, hz, q⟩ := h
  cases rx
  cases ry
  obtain ⟨its, r, pl, hl⟩ := I.list hH
  obtain ⟨its2, r2, pl2, hl2⟩ := I.list hB
  have hsz : its.length + its2.length ≤ sizeLine := by rw [← r.length, ← r2.length]; exact hz
  obtain ⟨⟨cls, dd, data, sl⟩, ho, hc, n, hd⟩ := pl.isList
  obtain ⟨⟨cls2, dd2, data2, sl2⟩, ho2, hc2, n2, hd2⟩ := pl2.isList
  simp only at hc hd hc2 hd2
  subst hc hd hc2 hd2
  have e : its.toArray ++ its2.toArray = (its ++ its2).toArray := by simp
  refine concat_meets ⟨_, ho, rfl⟩ ⟨_, ho2, rfl⟩ noFill_list_add seq_list_add PySem.F.slot_list_add PySem.F.entry_list_add (PySem.F.args_list_add_2 _ _) (list_addW l b its.toArray its2.toArray n n2 dd dd2 sl sl2 (by simpa using hsz)) ⟨ho, ho2, ?_⟩
  rw [e]
  exact ⟨.ref _, _, I.lnew (t' := s.toks) (r.append r2) (by rw [List.length_append]; exact hz), rfl, q _ I.fresh⟩
theorem bd_addL {x y : S} {ds es : List D} (hx : view M x = some (.lst ds)) (hy : view M y = some (.lst es)) (hl : ds.length + es.length ≤ sizeLine) (q : Q (.d (.lst (ds ++ es))) M) : BD F X (binaryOp .Add) x y ρ M Q := bd_of op_catD fun g σ H u v Z ru rv => by
  obtain ⟨a, xs, rfl, h1, h2⟩ := Z.lst ru hx
  obtain ⟨b, ys, rfl, k1, k2⟩ := Z.lst rv hy
  exact ⟨a, b, xs, ys, rfl, rfl, h1, k1, by rw [h2.length, k2.length]; exact hl, post_new Z (Gle.refl g) (repL_app h2 k2) q⟩
/-- x in [..], both data of any depth -/
theorem bd_inD {x y : S} {d : D} {ds : List D} (hu : X.A.units + 65 < cLine) (hx : view M x = some d) (hy : view M y = some (.lst ds)) (o1 : okD d = true) (o2 : okD (.lst ds) = true) (s1 : SeqAt.shaped (pyD d) = true) (s2 : SeqAt.shaped (pyD (.lst ds)) = true) (q : Q (.d (.bl ((pyDs ds).any fun z => PyData.eqv z (pyD d)))) M) : BD F X (compareOp .In) x y ρ M Q := bd_of (op_inD hu) fun g σ H u v Z ru rv => by
  have k2 := view_dp Z rv hy o2
  rw [pyD] at k2 s2
  exact ⟨pyD d, pyDs ds, view_dp Z ru hx o1, k2, s1, s2, post_at Z rsB q⟩
theorem bd_notinD {x y : S} {d : D} {ds : List D} (hu : X.A.units + 65 < cLine) (hx : view M x = some d) (hy : view M y = some (.lst ds)) (o1 : okD d = true) (o2 : okD (.lst ds) = true) (s1 : SeqAt.shaped (pyD d) = true) (s2 : SeqAt.shaped (pyD (.lst ds)) = true) (q : Q (.d (.bl (!(pyDs ds).any fun z => PyData.eqv z (pyD d)))) M) : BD F X (compareOp .NotIn) x y ρ M Q := bd_of (op_notInD hu) fun g σ H u v Z ru rv => by
  have k2 := view_dp Z rv hy o2
  rw [pyD] at k2 s2
  exact ⟨pyD d, pyDs ds, view_dp Z ru hx o1, k2, s1, s2, post_at Z rsB q⟩
def isNonS : S → Bool
  | .d .non => true
  | .d (.raw _) => false
  | _ => false
theorem rep_nonS {g : Gh} {v : V} {s : S} (h : ∀ x, s ≠ .d (.raw x)) (r : RepS X.K g v s) : decide (v = .non) = isNonS s := by
  cases s with
  | p n => obtain ⟨a, rfl, _⟩ := r; rfl
  | d x =>
    cases x with
    | raw y => exact absurd rfl (h y)
    | non => cases (show Rep X.K g.G v .non from r); rfl
    | bl b => rw [rep_bl r]; rfl
    | int b => rw [rep_int r]; rfl
    | str b => rw [rep_str r]; rfl
    | lst b => cases (show Rep X.K g.G v (.lst b) from r); rfl
    | tup b => cases (show Rep X.K g.G v (.tup b) from r); rfl
    | ins b c => cases (show Rep X.K g.G v (.ins b c) from r); rfl
    | dT b => cases (show Rep X.K g.G v (.dT b) from r); rfl
    | dK b => cases (show Rep X.K g.G v (.dK b) from r); rfl
theorem bd_isN {x : S} (h : ∀ y, x ≠ .d (.raw y)) (q : Q (.d (.bl (isNonS x))) M) : BD F X (compareOp .Is) x (.d .non) ρ M Q := bd_of op_isN fun g σ H u v Z ru rv => by
  cases (show Rep X.K g.G v .non from rv)
  refine ⟨rfl, ?_⟩
  rw [rep_nonS h ru]
  exact post_at Z rsB q
theorem bd_notN {x : S} (h : ∀ y, x ≠ .d (.raw y)) (q : Q (.d (.bl (!isNonS x))) M) : BD F X (compareOp .IsNot) x (.d .non) ρ M Q := bd_of op_notN fun g σ H u v Z ru rv => by
  cases (show Rep X.K g.G v .non from rv)
  refine ⟨rfl, ?_⟩
  rw [rep_nonS h ru]
  exact post_at Z rsB q
theorem cd_list {s : S} {ds : List D} (hv : view M s = some (.lst ds) ∨ s = .d (.tup ds)) (q : Q (.d (.lst ds)) M) : CD F X (.type "list") [s] ρ M Q := cd_of call_list_of fun g σ H us Z ru => by
  obtain ⟨v, rfl, rv⟩ := ss1 ru
  rcases hv with hv | rfl
  · obtain ⟨a, xs, rfl, h1, h2⟩ := Z.lst rv hv
    exact ⟨a, xs, rfl, .inl h1, post_new Z (Gle.refl g) h2 q⟩
  · obtain ⟨a, xs, rfl, h1, h2⟩ := Z.tup rv
    exact ⟨a, xs, rfl, .inr h1, post_new Z (Gle.refl g) h2 q⟩
/-- for i, x in enumerate(l), l a list -/
theorem for_enumL {K : PySem.W.Frag} {a : Addr} {xs : List V} {gg : TG} {tb : TS} {D : Ends} {σ : L2.St} {H : Hp} (Pv : Nat → L2.St → Hp → Prop) (h0 : Pv 0 σ H) (hl : ∀ i σ H, i ≤ xs.length → Pv i σ H → SqL K H a xs)
    (hs : ∀ i y T σ H, xs[i]? = some y → H T = none → Pv i σ H → gg (.ref T) σ (upd H T (.tup [.int (i : Nat), y])) fun σ2 H2 => tb { D with nx := Pv (i + 1), ct := Pv (i + 1), bk := D.nx } σ2 H2) (hd : ∀ σ H, Pv xs.length σ H → D.nx σ H) :
    ∃ W : Nat → Nat → L2.St → Hp → Prop, (∃ m, W 0 m σ H) ∧ ∀ i m σ H, W i m σ H →
      ((Ite K a).stop i H ∧ D.nx σ H) ∨ ((Ite K a).go i H ∧ ∃ N : L2.St → Hp → Prop, (∀ σ' H', N σ' H' → ∃ m', m' < m ∧ W (i + 1) m' σ' H') ∧ ∀ x H', (Ite K a).yld i H x H' → gg x σ H' fun σ2 H2 => tb { D with nx := N, ct := N, bk := D.nx } σ2 H2) := by
  refine ⟨fun i m σ H => m = xs.length - i ∧ i ≤ xs.length ∧ Pv i σ H, ⟨xs.length, rfl, Nat.zero_le _, h0⟩, ?_⟩
  rintro i m σ H ⟨rfl, hi, p⟩
  have q := hl i σ H hi p
  rcases Nat.lt_or_ge i xs.length with hlt | hge
  · right
    refine ⟨⟨xs, xs[i], q, List.getElem?_eq_getElem hlt⟩, Pv (i + 1), fun σ' H' p' => ⟨xs.length - (i + 1), by omega, rfl, hlt, p'⟩, ?_⟩
    rintro x H' ⟨T, y, rfl, hT, rfl, k⟩
    exact hs i y T σ H (k xs q) hT p
  · left
    have e : i = xs.length := by omega
    subst e
    exact ⟨⟨xs, q, Nat.le_refl _⟩, hd σ H p⟩
theorem ds_forEnumL {elts : List Expr} {kk : Nat} {tpos p2 : Pos} {body : List Stmt} (hp : PassesOwn (model X.prog X.w) X.A X.env X.xe) (hc : X.calm = true) (hg : Gl X "enumerate") (hm : X.mg "enumerate" = none)
    (hst : starEach (e :: []) X.env = (false, eval e X.env) :: starEach [] X.env) (hs : ∀ x, foldedSetIterable (.Call (.Name "enumerate" p) [e] [] p2) X.env x = pure x)
    (h : DE F X e ρ M fun s M' => ∃ ds, s = .d (.lst ds) ∧ ∃ I : Nat → Rho → Mem → Prop, I 0 ρ M' ∧ (∀ (i : Nat) d ρ' M'', ds[i]? = some d → I i ρ' M'' → DG F X (.Tuple elts kk tpos) (.d (.tup [.int (i : Nat), d])) ρ' M'' fun ρ2 M2 => DB F X body ρ2 M2 (turnEnds N (I (i + 1)))) ∧ ∀ ρ' M'', I ds.length ρ' M'' → N.nx ρ' M'') :
    DS F X (.For (.Tuple elts kk tpos) (.Call (.Name "enumerate" p) [e] [] p2) body [] pos) ρ M N := ⟨fun g σ H Z => of_ps (ps_for hp hc (pi_enum hg hm (pa_cons pe_s pa_nil hst) hst) pg_s pb_s hs) <|
  tS_mono (h.run g σ H Z) fun v H1 ⟨s, M', g', l, r, Z', ds, es, I, i0, turn, done⟩ => by
    subst es
    obtain ⟨a, xs, rfl, h1, h2⟩ := repLst r
    refine ⟨a, xs, rfl, le_l Z'.sub h1, for_enumL (K := X.K) (a := a) (xs := xs) (PvOf X.K F g' I) ⟨ρ, M', g', Gle.refl g', Z', i0⟩ (fun i σ2 H2 _ ⟨ρ2, M2, g2, l2, Z2, _⟩ => le_l (l2.G.trans Z2.sub) h1) ?_ ?_⟩
    · rintro i y T σ2 H2 hi hT ⟨ρ2, M2, g2, l2, Z2, i2⟩
      obtain ⟨d, hd, rd⟩ := h2.getV hi
      obtain ⟨Z3, l3⟩ := Z2.allocD (p := T) (o := .tup [.int (i : Nat), y]) hT
      have rT : RepS X.K ⟨upd g2.G T (.tup [.int (i : Nat), y]), g2.θ⟩ (.ref T) (.d (.tup [.int (i : Nat), d])) := Rep.tup (.inl (.inl upd_same)) (.cons (.int _) (.cons ((rd.mono l2.G).mono l3.G) .nil))
      exact gS_mono ((turn i d ρ2 M2 hd i2).run _ σ2 _ _ Z3 rT) fun σ3 H3 ⟨ρ3, M3, g3, l4, Z4, b3⟩ => sB_mono (b3.run g3 σ3 H3 Z4) (by
        have L := (l2.trans l3).trans l4
        have L' := l.trans L
        exact ⟨fun _ _ ⟨ρ, M, g2, k, r⟩ => ⟨ρ, M, g2, L.trans k, r⟩, fun _ _ ⟨d, ρ, M, σ, g2, k, r⟩ => ⟨d, ρ, M, σ, g2, L'.trans k, r⟩, fun _ _ ⟨ρ, M, g2, k, r⟩ => ⟨ρ, M, g2, L'.trans k, r⟩, fun _ _ ⟨ρ, M, g2, k, r⟩ => ⟨ρ, M, g2, L.trans k, r⟩⟩)
    · rintro σ2 H2 ⟨ρ2, M2, g2, l2, Z2, i2⟩
      rw [h2.length] at i2
      exact ⟨ρ2, M2, g2, l.trans l2, Z2, done _ _ i2⟩⟩
/-- d.get((a, b)) -/
theorem de_dgetM {kk : Nat} (hu : X.A.units + 1 < cLine) (h : DE F X o ρ M fun s M1 => (∃ t, viewT M1 s = some t) ∧ DA F X es ρ M1 fun ss M2 => ∃ ks t, KeyOk ss ks ∧ viewT M2 s = some t ∧ (∀ y, getT t ks = some y → Q y M2) ∧ (getT t ks = none → Q (.d .non) M2)) (m : M1 X o "get" apos (.Tuple es kk tp) cpos) : DE F X (.Call (.Attribute o "get" apos) [.Tuple es kk tp] [] cpos) ρ M Q := ⟨fun g σ H Z => of_pe (pe_dget1 hu pe_s (pe_tup pa_s) m) <|
  tS_mono (h.run g σ H Z) fun v H1 ⟨s, M1, g1, l1, r1, Z1, ⟨t0, ht0⟩, q1⟩ => by
    obtain ⟨a, xs0, rfl, hd0, _⟩ := Z1.tab r1 ht0
    refine ⟨a, rfl, .inr ⟨xs0, hd0⟩, tA_mono (q1.run g1 σ H1 Z1) fun vs H2 ⟨ss, M2, g2, l2, r2, Z2, ks, t, hk, ht, hy, hn⟩ => ⟨key_len hk r2, fun p hp => ?_⟩⟩
    obtain ⟨_, e, Z3, l3⟩ := key_new Z2 hk r2 hp
    subst e
    obtain ⟨a', xs, ea, hd, rt⟩ := Z3.tab ((r1.mono l2).mono l3) ht
    cases ea
    rcases rt.val ks with ⟨e1, e2⟩ | ⟨w, z, e1, e2, rw'⟩
    · exact ⟨none, .inr ⟨xs, ks, p, hd, rfl, upd_same, e1.symm⟩, .d .non, M2, _, (l1.trans l2).trans l3, Rep.non, Z3, hn e2⟩
    · exact ⟨some w, .inr ⟨xs, ks, p, hd, rfl, upd_same, e1.symm⟩, z, M2, _, (l1.trans l2).trans l3, rw', Z3, hy z e2⟩⟩
/-- {}, as data -/
theorem de_dnewD (q : Q (.d (.dT [])) (M ++ [.dead])) : DE F X (.Dict [] [] pos) ρ M Q := ⟨fun g σ H Z => by
  have hn : F.θ0.length ≤ M.length := by
    obtain ⟨l, el⟩ := Z.pre
    rw [Z.ml, el, List.length_append]
    exact Nat.le_add_right _ _
  intro pins s I
  refine thn ((de_dnew (X := X) (F := F) (ρ := ρ) (M := M) (pos := pos) (Q := fun x M1 => x = .p M.length ∧ M1 = M ++ [.dT []]) ⟨rfl, rfl⟩).run g σ H Z pins s I) fun u s1 ⟨v, H1, I1, rv, x, M1, g1, l1, r1, Z1, ex, eM⟩ => ?_
  subst ex eM
  have em : (M ++ [C.dT []])[M.length]? = some (.dT (tabS [])) := by
    rw [List.getElem?_append_right (Nat.le_refl _)]; simp [tabS]
  obtain ⟨a, vs, ea, hd, key⟩ := Z1.freezeT em hn
  obtain ⟨a', rfl, ea'⟩ := r1
  rw [ea'] at ea; cases ea
  obtain ⟨od, I2⟩ := I1.lock hd trivial
  obtain ⟨G', Z', L, r⟩ := key od
  refine ⟨.ref a, _, I2, rv, .d (.dT []), _, _, l1.trans L, r, Z', ?_⟩
  have e : (M ++ [C.dT []]).set M.length .dead = M ++ [.dead] := by
    rw [List.set_append_right _ _ (Nat.le_refl _)]; simp
  rw [e]
  exact q⟩
end
end DL
end

section
set_option Elab.async false
set_option linter.all false
set_option maxRecDepth 100000
set_option maxHeartbeats 2000000
namespace DL
open PySem PySem.Spec PyProof.Rows L2
def boolS (b : Bool) : Str := if b then "True" else "False"
section
variable {X : Cx} {F : Fc} {ρ : Rho} {M : Mem} {Q : S → Mem → Prop}
theorem call_repr_bl : CallR X (.builtin "repr") (fun xs H Q => ∃ b, xs = [.bl b] ∧ Q (.str (boolS b)) H) := by
  intro pins s σ H xs us Q I r h
  obtain ⟨b, rfl, q⟩ := h
  obtain ⟨u, rfl, ru⟩ := vals1 r
  cases (show u = Value.bool b from ru)
  exact PySem.P.repr_of_bool ⟨.str (boolS b), H, I.tok _, ⟨_, rfl⟩, q⟩
theorem cd_reprB {b : Bool} (q : Q (.d (.str (boolS b))) M) : CD F X (.builtin "repr") [.d (.bl b)] ρ M Q := cd_of call_repr_bl fun g σ H us Z ru => by
  obtain ⟨v, rfl, rv⟩ := ss1 ru
  rw [rep_bl rv]
  exact ⟨b, rfl, post_at Z rsS q⟩
end
theorem repr_bools {u : Nat} (hu : u + 64 < cLine) : (∀ a b : Bool, ReprOk u (.lst [.bl a, .bl b])) ∧ ∀ a b c : Bool, ReprOk u (.lst [.bl a, .bl b, .bl c]) := by
  refine ⟨fun a b => ?_, fun a b c => ?_⟩
  · refine ⟨rfl, ?_, ?_, ?_⟩
    · cases a <;> cases b <;> rfl
    · have e : (pyD (.lst [.bl a, .bl b])).depth ≤ 2 := by simp [pyD, pyDs, PyData.depth, PyData.depthAll]
      omega
    · cases a <;> cases b <;> decide +kernel
  · refine ⟨rfl, ?_, ?_, ?_⟩
    · cases a <;> cases b <;> cases c <;> rfl
    · have e : (pyD (.lst [.bl a, .bl b, .bl c])).depth ≤ 2 := by simp [pyD, pyDs, PyData.depth, PyData.depthAll]
      omega
    · cases a <;> cases b <;> cases c <;> decide +kernel
end DL
end

section
set_option Elab.async false
set_option linter.all false
set_option maxRecDepth 100000
set_option maxHeartbeats 400000
namespace DL
open PySem PySem.Spec PyProof.Rows L2
/-! ### list * int, sum, int of a truth, l[i] += v -/
section
variable {X : Cx} {F : Fc} {ρ : Rho} {M : Mem} {Q : S → Mem → Prop} {N : DEnds} {e o ix : Expr} {es : List Expr} {pos tpos p : Pos}
def rRepD (K : PySem.W.Frag) : R2 := fun x y H Q => ∃ l k xs, x = .ref l ∧ y = .int k ∧ SqL K H l xs ∧ -(2 ^ 63) ≤ k ∧ k < 2 ^ 63 ∧ xs.length * k.toNat ≤ sizeLine ∧ ∀ p, H p = none → Q (.ref p) (upd H p (.lst (List.replicate k.toNat xs).flatten))
theorem op_repD : OpR X (binaryOp .Mult) (rRepD X.K) := by
  intro pins s σ H x y v u Q I rx ry h
  obtain ⟨l, k, xs, rfl, rfl, hH, h1, h2, hz, q⟩ := h
  cases rx
  obtain ⟨t, rfl⟩ := ry
  obtain ⟨its, r, pl, hl⟩ := I.list hH
  have ll := r.length
  have hlen : its.toArray.size * k.toNat ≤ sizeLine := by rw [List.size_toArray, ← ll]; exact hz
  have hbig : (sizeLine : Nat) ≤ (2 ^ 63 - 1) / 8 := by decide
  have hcap : ¬ its.toArray.size * k.toNat > (2 ^ 63 - 1) / 8 := by omega
  have hfit : ¬ (!Builtin.List.listFitsIndex k) = true := by
    rw [fitsIndex_both h1 h2]
    exact Bool.false_ne_true
  have hlong : ¬ Builtin.List.listTooLong (its.toArray.size * k.toNat) = true := by
    rw [notLongL hlen]
    exact Bool.false_ne_true
  have f0 : ∀ m : Nat, List.foldl (fun x1 x2 => x1 ++ x2) #[] (List.replicate m its.toArray) = (List.replicate m its).flatten.toArray := fun m => by
    have := foldl_rep its m []
    rw [List.nil_append] at this
    exact this
  have hnew : List.foldl (fun x1 x2 => x1 ++ x2) #[] (List.replicate (if its.toArray.isEmpty = true then 0 else k.toNat) its.toArray) = (List.replicate k.toNat its).flatten.toArray := by
    rw [f0]
    cases its with
    | nil => simp
    | cons a r' => rw [if_neg (by simp)]
  obtain ⟨⟨cls, dd, data, sl⟩, ho, hc, n, hd⟩ := pl.isList
  simp only at hc hd
  subst hc hd
  have done : EP X pins σ Q (.ref s.heap.objs.size) { s with heap := s.heap.push { cls := .type "list", data := .seq (List.replicate k.toNat its).flatten.toArray } } :=
    ⟨.ref _, _, I.lnew (t' := s.toks) (r.rep k.toNat) (by rw [PyProof.Rows.lm_len_rep_flat, Nat.mul_comm]; exact hz), rfl, q _ I.fresh⟩
  refine wpAny_binaryOp_repeat_ref (T := "list") (U := "int") (by decide) ⟨_, ho, rfl⟩ (fun s' => typeIs_int s' k t) noFill_list_mul PySem.F.fills_int_mul PySem.F.slot_int_rmul repeat_list PySem.F.slot_int_index.lookup ?_
  refine call_meets PySem.F.slot_int_rmul (typeIs_int s k t) PySem.F.entry_int_rmul (PySem.F.args_int_rmul_2 _ _) (lm_int_rmul_list_any k t l its.toArray n dd sl) ⟨ho, rfl, ⟨_, ho, rfl⟩, ?_⟩
  refine call_meets PySem.F.slot_list_mul ⟨_, ho, rfl⟩ PySem.F.entry_list_mul (PySem.F.args_list_mul_2 _ _) (lm_list_mul_any l its.toArray n dd sl k t hfit hcap hlong) ⟨ho, ?_⟩
  rw [hnew]
  exact done
theorem repL_rep {K : PySem.W.Frag} {G : Hp} {vs : List V} {ds : List D} (h : RepL K G vs ds) : ∀ n : Nat, RepL K G (List.replicate n vs).flatten (List.replicate n ds).flatten
  | 0 => by simp; exact .nil
  | n + 1 => by
    rw [List.replicate_succ, List.replicate_succ, List.flatten_cons, List.flatten_cons]
    exact repL_app h (repL_rep h n)
/-- [..] * n -/
theorem bd_repL {x : S} {ds : List D} {k : Int} (hx : view M x = some (.lst ds)) (h0 : 0 ≤ k) (h1 : k < 2 ^ 62) (hl : ds.length * k.toNat ≤ sizeLine) (q : Q (.d (.lst (List.replicate k.toNat ds).flatten)) M) : BD F X (binaryOp .Mult) x (.d (.int k)) ρ M Q := bd_of op_repD fun g σ H u v Z ru rv => by
  obtain ⟨a, xs, rfl, h2, h3⟩ := Z.lst ru hx
  rw [rep_int rv]
  exact ⟨a, k, xs, rfl, rfl, h2, by omega, by omega, by rw [h3.length]; exact hl, post_new Z (Gle.refl g) (repL_rep h3 _) q⟩
/-- .. that is to be changed -/
theorem bd_repP {x : S} {ds : List D} {k : Int} (hx : view M x = some (.lst ds)) (h0 : 0 ≤ k) (h1 : k < 2 ^ 62) (hl : ds.length * k.toNat ≤ sizeLine) (q : Q (.p M.length) (M ++ [.lst ((List.replicate k.toNat ds).flatten.map S.d)])) : BD F X (binaryOp .Mult) x (.d (.int k)) ρ M Q := bd_of op_repD fun g σ H u v Z ru rv => by
  obtain ⟨a, xs, rfl, h2, h3⟩ := Z.lst ru hx
  rw [rep_int rv]
  exact ⟨a, k, xs, rfl, rfl, h2, by omega, by omega, by rw [h3.length]; exact hl, post_newP Z (Gle.refl g) (repL_S (repL_rep h3 _)) q⟩
theorem repL_ints {K : PySem.W.Frag} {G : Hp} : ∀ {ns : List Int} {vs : List V}, RepL K G vs (ns.map D.int) → vs = ns.map V.int
  | [], _, .nil => rfl
  | n :: ns, _, .cons h t => by
    rw [List.map_cons, ← repL_ints t, ← rep_int h]
theorem cd_sum {s : S} {ns : List Int} (hc : X.calm = true) (hv : view M s = some (.lst (ns.map D.int))) (q : Q (.d (.int ns.sum)) M) : CD F X (.builtin "sum") [s] ρ M Q := cd_of (cr_sum hc) fun g σ H us Z ru => by
  obtain ⟨v, rfl, rv⟩ := ss1 ru
  obtain ⟨a, xs, rfl, h1, h2⟩ := Z.lst rv hv
  have e := repL_ints h2
  subst e
  exact ⟨a, ns, rfl, h1, post_at Z rsI q⟩
/-- l[i], by values -/
theorem get_listP : PGet X (fun x i H Q => ∃ a xs k v, x = .ref a ∧ i = .int k ∧ SqL X.K H a xs ∧ 0 ≤ k ∧ xs[k.toNat]? = some v ∧ Q v H) := by
  intro pins s σ H x i ov iv Q I rx ri h
  obtain ⟨a, xs, k, v, rfl, rfl, hs, h0, hv, q⟩ := h
  cases rx
  obtain ⟨t, rfl⟩ := ri
  obtain ⟨its, r, pl, hz⟩ := I.list hs
  obtain ⟨w, ew, rw'⟩ := r.get hv
  have hl := r.length
  have hk : k.toNat < xs.length := (List.getElem?_eq_some_iff.mp hv).1
  have hn := line63
  exact wpAny_getItem_list pl.isList h0 (by omega) (by simpa using ew) ⟨v, H, I, rw', q⟩
/-- l[i] += v, ints in a list that may change -/
theorem ds_augL (h : DE F X o ρ M fun s M1 => DE F X ix ρ M1 fun k M2 => ∃ n, s = .p n ∧ ∃ i : Int, k = .d (.int i) ∧ 0 ≤ i ∧ ∃ ss z, M2[n]? = some (.lst ss) ∧ ss[i.toNat]? = some (.d (.int z)) ∧
      DE F X e ρ M2 fun t M3 => ∃ y : Int, t = .d (.int y) ∧ ∃ ts, M3[n]? = some (.lst ts) ∧ i.toNat < ts.length ∧ N.nx ρ (M3.set n (.lst (ts.set i.toNat (.d (.int (z + y)))))))
    (ha : ∀ ov iv new, augStore ix ov iv new = (do holding [new, ov, iv] (setItem ov iv new); release [new, ov, iv] []; pure .next)) : DS F X (.AugAssign (.Subscript o ix tpos) .Add e pos) ρ M N := ⟨fun g σ H Z => of_ps (ps_augS pe_s pe_s get_listP pe_s ip_add set_list ha) <|
  tS_mono (h.run g σ H Z) fun u H1 ⟨s, M1, g1, l1, r1, Z1, q1⟩ => tS_mono (q1.run g1 σ H1 Z1) fun w H2 ⟨k, M2, g2, l2, r2, Z2, n, es, i, ek, h0, ss, z, em, ez, q2⟩ => by
    subst es ek
    obtain ⟨a, rfl, ea⟩ := r1
    have ea2 := l2.get ea
    obtain ⟨xs, h1, h2⟩ := Z2.ob n _ a em ea2
    rw [rep_int r2]
    obtain ⟨v, hv, rv⟩ := h2.get ez
    refine ⟨a, xs, i, v, rfl, rfl, SqL.of h1, h0, hv, tS_mono (q2.run g2 σ H2 Z2) fun t H3 ⟨t', M3, g3, l3, r3, Z3, y, et, ts, em3, hi, q3⟩ => ?_⟩
    subst et
    have ea3 := l3.get ea2
    obtain ⟨ys, k1, k2⟩ := Z3.ob n _ a em3 ea3
    refine ⟨z, y, rep_int rv, rep_int r3, a, ys, i, i.toNat, rfl, rfl, k1, ?_, ?_⟩
    · unfold ixN
      rw [if_pos h0, if_pos (by rw [k2.length]; omega)]
    · exact ⟨ρ, _, g3, (l1.trans l2).trans l3, set_cont Z3 em3 ea3 (repSs_set (s := .d (.int (z + y))) (Rep.int _) i.toNat k2), q3⟩⟩
theorem cd_intB {b : Bool} (q : Q (.d (.int (if b then 1 else 0))) M) : CD F X (.type "int") [.d (.bl b)] ρ M Q := cd_of call_int1 fun g σ H us Z ru => by
  obtain ⟨v, rfl, rv⟩ := ss1 ru
  rw [rep_bl rv]
  exact .inr ⟨b, rfl, post_at Z rsI q⟩
/-- [elt for x, y in l], l a list of pairs -/
theorem de_lcP {x y : Str} {i j kk : Nat} {px py tp : Pos} {elt iter : Expr} {ifs : List Expr} {scope : Scope} (hc : X.calm = true) (hN : X.N.Nodup) (hij : i ≠ j) (ok : BlkOk X.N X.env.scope scope [(x, i), (y, j)])
    (hgx : ∀ (s : Shared) (H : Hp) (C : Addr) (cl : List (Str × Addr)) (fp : List Addr), PG (X.blk s H scope (compEnvC scope cl C X.env) fp) (.Name x px) (gName i))
    (hgy : ∀ (s : Shared) (H : Hp) (C : Addr) (cl : List (Str × Addr)) (fp : List Addr), PG (X.blk s H scope (compEnvC scope cl C X.env) fp) (.Name y py) (gName j))
    (hcb : ∀ (s : Shared) (H : Hp) (C : Addr) (cl : List (Str × Addr)) (fp : List Addr), (X.blk s H scope (compEnvC scope cl C X.env) fp).calm = true) (hs : ∀ x, foldedSetIterable iter X.env x = pure x)
    (h : DE F X iter ρ M fun s M' => ∃ ds : List (D × D), s = .d (.lst (ds.map fun z => D.tup [z.1, z.2])) ∧ ∃ I : Nat → List D → Mem → Prop, I 0 [] M' ∧ (∀ k d1 d2 acc M1, ds[k]? = some (d1, d2) → I k acc M1 → M1.length = M'.length → LcTurn F X scope ifs elt ((((ρ.set j none).set i none).set i (some (.d d1))).set j (some (.d d2))) M'.length acc M1 (fun acc' M4 => I (k + 1) acc' M4) (fun M4 => I (k + 1) acc M4)) ∧
      ∀ acc M1, I ds.length acc M1 → M1.length = M'.length → M1.all C.fd = true ∧ Q (.d (.lst acc)) M1) : DE F X (.ListComp elt [⟨.Tuple [.Name x px, .Name y py] kk tp, iter, ifs, 0⟩] scope pos) ρ M Q := ⟨fun g σ H Z => of_pe (pe_lc (own := [(x, i), (y, j)]) (g := gTup X.K 2 (gCons (gName i) (gCons (gName j) gNil))) (tt := ttA X scope ifs) (te := teA X scope elt) hc hN (pi_list pe_s) ok
      (fun s H C cl fp => pg_tup (hcb s H C cl fp) (pgs_cons (hgx s H C cl fp) (pgs_cons (hgy s H C cl fp) pgs_nil)))
      (fun s H C cl fp => ⟨fun pins s1 σ H' Q I h => h s H C cl fp pins s1 I⟩) (fun s H C cl fp => ⟨fun pins s1 σ H' Q I h => h s H C cl fp pins s1 I⟩) hs) <|
  tS_mono (h.run g σ H Z) fun v H1 ⟨s, M', g', l, r, Z', ds, es, I, i0, turn, done⟩ => by
    subst es
    obtain ⟨a, xs, rfl, h1, h2⟩ := repLst r
    have hlen : xs.length = ds.length := by rw [h2.length, List.length_map]
    refine ⟨a, rfl, ⟨xs, le_l Z'.sub h1⟩, fun D0 hD => lc_list (K := X.K) (a := a) (xs := xs) (LcPv X.K F g' D0 ((ρ.set j none).set i none) ((σ.set j none).set i none) M'.length I) ?_ (fun k H2 _ ⟨acc, M1, G', l', _, Z1, _⟩ => le_l (l'.trans Z1.sub) h1) (fun k w H2 hk P => ?_) (fun H2 P => ?_)⟩
    · obtain ⟨Z2, L⟩ := Z'.allocP (o := .lst []) (c := .lst []) hD ⟨[], upd_same, .nil⟩
      exact ⟨[], M', g'.G, Le.refl _, rfl, (Z2.wipe j).wipe i, i0⟩
    · obtain ⟨dd, hd, rd⟩ := h2.getV hk
      rw [List.getElem?_map] at hd
      obtain ⟨⟨d1, d2⟩, hd2, rfl⟩ := Option.map_eq_some_iff.mp hd
      cases rd with
      | @tup ta us _ t1 t2 =>
        cases t2 with
        | @cons u1 us1 _ _ r1 t2 =>
          cases t2 with
          | @cons u2 us2 _ _ r2 t2 =>
            cases t2
            have tq : SqT X.K H2 ta [u1, u2] := by
              obtain ⟨_, _, G', l', _, Z1, _⟩ := P
              exact le_t (l'.trans Z1.sub) t1
            refine ⟨ta, [u1, u2], rfl, tq, rfl, u1, [u2], rfl, u2, [], rfl, rfl, ?_, ?_⟩
            · exact set_back hij
            · refine lc_stepG Z'.ml P (fun G' M H lG Z => (Z.set (i := i) (v := u1) (s := .d d1) (Rep.mono lG r1)).set (i := j) (v := u2) (s := .d d2) (Rep.mono lG r2)) (fun G' M H Z => ?_) (fun acc M1 q hl => turn k d1 d2 acc M1 hd2 q hl)
              have Z2 := (Z.wipe j).wipe i
              rw [show wipe σ (List.map (fun x => x.snd) [(x, i), (y, j)]) = (σ.set j none).set i none from rfl, set_back hij, set_back hij] at Z2
              exact Z2
    · rw [hlen] at P
      exact lc_endG Z' l P done⟩
end
/-! ### an own def called with keywords alone -/
structure CalK (P : Program) (w : World) (K : PySem.W.Frag) (mg : Str → Option Value) (base : Heap) (k : Nat) (x : Str) (ps ks : List Str) (gS : List S → List S) (sd : Sd) : Prop where
  ex : ∃ f fd, FnG P w K mg base CX0 k f fd ps (spOf K ps.length sd) ∧ mg x = some (.ref f) ∧ PySem.W.keepIn K (.ref f) = true ∧
    ∃ (g : List Value → List Value) (gV : List V → List V), (∀ (s : Shared) (ws : List Value), K.In s.heap → ws.length = ks.length → BindsTo s fd ⟨[], ks.zip ws⟩ (ps.zip (g ws))) ∧
      (∀ {zs : List V} {ws : List Value}, zs.length = ks.length → Vals zs ws → Vals (gV zs) (g ws)) ∧ ∀ {G : Gh} {zs : List V} {ts : List S}, ts.length = ks.length → RepSs K G zs ts → RepSs K G (gV zs) (gS ts)
section
variable {X : Cx} {F : Fc} {ρ : Rho} {M : Mem} {Q : S → Mem → Prop} {pos p : Pos} {x : Str} {k j : Nat} {ps ks : List Str} {sd : Sd}
theorem runGK {f : Addr} {fd : FuncData} {sp : Sp} {pins : List (Addr × Obj)} {σ : L2.St} {H : Hp} {s : Shared} {Q : VK} {ws bs : List Value} {bvs : List V} (G : FnG X.prog X.w X.K X.mg X.base CX0 k f fd ps sp) (hr : Room k X.A) (hg : X.A.guards = some []) (hb : BindsTo s fd ⟨[], ks.zip ws⟩ (ps.zip bs))
    (I : Inv X pins σ H s) (r : Vals bvs bs) (h : sp bvs H Q E0) : wpAny (model X.prog X.w) X.A (call (.ref f) [] (ks.zip ws)) (EP X pins σ Q) X.xe s := by
  refine wpAny_call (codeAny_mono (G.run X.A X.stack s H ⟨[], ks.zip ws⟩ bs bvs Q E0 hr hg I.env0 hb r h) fun rs s1 hq => ?_)
  cases rs with
  | error er => exact (show False from hq).elim
  | ok fl =>
    cases fl with
    | ret u => exact I.after hq
    | _ => exact (show False from hq).elim
theorem de_ownK {kws : List Keyword} {gS : List S → List S} (c : CalK X.prog X.w X.K X.mg X.base k x ps ks gS sd) (hr : Room j X.A) (hgu : X.A.guards = some []) (hkj : k ≤ j) (hg : Gl X x)
    (hall : (backToKw pos (keywordEach kws X.env)).all (·.1.isSome) = true) (hks : (backToKw pos (keywordEach kws X.env)).filterMap (·.1) = ks) (hdb : (x == ("__debug__" : Str)) = false)
    (hpl : ((backTo pos (starEach [] X.env)).any (·.1) || (backToKw pos (keywordEach kws X.env)).any (·.1.isNone)) = false)
    (h : DK F X kws ρ M fun ts M2 => ts.length = ks.length ∧ SpD F X (spOf X.K ps.length sd) [] (gS ts) ρ M2 Q) : DE F X (.Call (.Name x p) [] kws pos) ρ M Q := by
  obtain ⟨f, fd, G, hm, hk, gv, gV, b1, b2, b3⟩ := c.ex
  refine ⟨fun g σ H Z pins s I => ?_⟩
  refine wpAny_Call_Name_kw (ld_glob I hg hm ?_ hdb)
  refine PySem.W.callWith_KW0 (h₀ := X.base) I.ok.mod.kin hk hall ?_ hpl
  refine thn (h.run g σ H Z pos pins s I) fun ws s2 ⟨zs, H2, I2, rz, ts, M2, g2, l2, r2, Z2, n2, q⟩ => ⟨I2.kIn, ?_⟩
  rw [hks]
  have m2 : zs.length = ks.length := by rw [r2.length]; exact n2
  have q2 := q.run g g2 σ H2 _ l2 Z2 (b3 n2 r2)
  rw [List.append_nil] at q2
  exact runGK G (hr.mono hkj) hgu (b1 s2 ws I2.kIn (rz.length.symm.trans m2)) I2 (b2 m2 rz) q2
end
end DL
end

section
set_option Elab.async false
set_option linter.all false
set_option maxRecDepth 100000
set_option maxHeartbeats 1000000
namespace DL
open PySem PySem.Spec PyProof.Rows L2
/-! ### exceptions: what is known where one is in the air -/
section
variable {K : PySem.W.Frag} {F : Fc} {g g1 : Gh} {ρ ρ1 : Rho} {M M1 : Mem} {σ σ1 : L2.St} {H H1 : Hp}
/-- the place where a try begins, as a beginning -/
theorem Sim.rebase (Z : Sim K F g ρ M σ H) : Sim K ⟨H, g.G, g.θ⟩ g ρ M σ H :=
  ⟨Z.sub, Z.ln, Z.sl, Z.ml, Z.ob, Z.nd, Z.tr, Z.go, ⟨[], by simp⟩, fun _ _ e _ => e, fun a h => .inl h, fun a o e => .inl e, Le.refl _⟩
/-- .. and back -/
theorem Sim.unbase (Z : Sim K F g ρ M σ H) (Z1 : Sim K ⟨H, g.G, g.θ⟩ g1 ρ1 M1 σ1 H1) : Sim K F g1 ρ1 M1 σ1 H1 ∧ Gle g g1 := by
  obtain ⟨l, el⟩ := Z.pre
  obtain ⟨l1, el1⟩ := Z1.pre
  have el1 : g1.θ = g.θ ++ l1 := el1
  refine ⟨⟨Z1.sub, Z1.ln, Z1.sl, Z1.ml, Z1.ob, Z1.nd, Z1.tr, Z1.go, ⟨l ++ l1, by rw [el1, el, List.append_assoc]⟩, fun a o e h => ?_, fun a h => ?_, fun a o e => ?_, Z.g0.trans Z1.g0⟩, ⟨Z1.g0, l1, el1⟩⟩
  · have h1 := Z.fr a o e h
    refine Z1.fr a o h1 fun m => ?_
    rcases Z.own a m with q | q
    · exact h q
    · rw [q] at e; cases e
  · rcases Z1.own a h with q | q
    · exact Z.own a q
    · by_cases m : a ∈ F.θ0
      · exact .inl m
      · right
        cases e : F.H0 a with
        | none => rfl
        | some o =>
          have := Z.fr a o e m
          rw [show H a = none from q] at this; cases this
  · rcases Z1.gn a o e with q | q
    · exact Z.gn a o q
    · right
      cases e0 : F.H0 a with
      | none => rfl
      | some o0 =>
        have q : H a = none := q
        by_cases m : a ∈ F.θ0
        · have mg : a ∈ g.θ := by rw [el]; exact List.mem_append_left _ m
          obtain ⟨_, t⟩ := Z.tr a mg
          rw [q] at t; cases t
        · have := Z.fr a o0 e0 m
          rw [q] at this; cases this
end
/-- the fields of an exception -/
def XD (K : PySem.W.Frag) (G H : Hp) (d : Option Addr) (ds : List (Str × D)) : Prop := (d = none ∧ ds = []) ∨ ∃ dd fs, d = some dd ∧ H dd = some (.xd fs) ∧ RepF K G fs ds
/-- a wish about exceptions -/
abbrev QX := Addr → List (Str × D) → Rho → Mem → Prop
def XW (F : Fc) (K : PySem.W.Frag) (q : QX) : WX := fun cls d σ H => ∃ (C : Addr) (ds : List (Str × D)) (g : Gh) (ρ : Rho) (M : Mem), cls = .ref C ∧ Sim K F g ρ M σ H ∧ XD K g.G H d ds ∧ q C ds ρ M
/-- a contract with exceptions -/
abbrev SdX := List S → List C → (Rs → List C → Prop) → (Addr → List (Str × D) → List C → Prop) → Prop
def spX (K : PySem.W.Frag) (np : Nat) (sd : SdX) : Sp := fun vs H Q E => vs.length = np ∧ ∃ (ss : List S) (cs : List C) (G : Hp) (as : List Addr), RepSs K ⟨G, as⟩ vs ss ∧ Le G H ∧ Conts K G H as cs ∧ as.Nodup ∧ (∀ a ∈ as, G a = none) ∧
  ∃ (Q0 : Rs → List C → Prop) (X0 : Addr → List (Str × D) → List C → Prop), sd ss cs Q0 X0 ∧ (∀ r cs', Q0 r cs' → ∀ v H' G', Aft G as H G' H' → Conts K G' H' as cs' → RetV K H G' H' r v → Q v H') ∧
    ∀ C ds cs', X0 C ds cs' → ∀ d H' G', Aft G as H G' H' → Conts K G' H' as cs' → XD K G' H' d ds → E (.ref C) d H'
section
variable {P : Program} {w : World} {K : PySem.W.Frag} {mg : Str → Option Value} {base : Heap}
/-- THE RULE for a def that may raise -/
theorem fn_okX {x qual : Str} {st : Stmt} {f : Addr} {fd : FuncData} {N ps : List Str} {k : Nat} {sd : SdX} (FF : Fun K x qual st f fd) (SS : FnScope N ps (defScope st))
    (hbody : ∀ (cdv : Value) (A : Around) (outer : List Env) (s : Shared) (H : Hp) (E : XK) (F : Fc) (ss : List S) (cs : List C) (Q : Rs → List C → Prop) (X0 : Addr → List (Str × D) → List C → Prop), Room k (A.deeper (envOfC qual (defScope st) s.heap.objs.size f cdv)) → (A.deeper (envOfC qual (defScope st) s.heap.objs.size f cdv)).guards = some [] → sd ss cs Q X0 → ss.length = ps.length → F.θ0.length = cs.length →
      Takes (cxOf (L2.CX P w) P w K mg base N qual (defScope st) f cdv A outer s H E) (XW F K fun C ds _ M => (∀ c ∈ M.take cs.length, DL.C.flat c = true) ∧ X0 C ds (M.take cs.length)) →
      DB F (cxOf (L2.CX P w) P w K mg base N qual (defScope st) f cdv A outer s H E) (defBody st) (startS N ss) cs { nx := fun _ M => RetS cs.length (.d .non) M Q, rt := fun t M => RetS cs.length t M Q }) :
    FnG P w K mg base (L2.CX P w) (k + 1) f fd ps (spX K ps.length sd) := by
  obtain ⟨oc, od, kV, dc, pm, an, cdv, ct, osl, rfl, lk, hcd⟩ := FF.ex
  refine fnG_of lk hcd SS (fun vs H Q E h => h.1) (fun A outer s H vs Q E hr hgu h => ?_)
  obtain ⟨hl, ss, cs, G, as, r, l, hc, nd, ga, Q0, X0, hsd, hQ, hX⟩ := h
  have Z : Sim K ⟨H, G, as⟩ ⟨G, as⟩ (startS N ss) cs (L2.start N vs) H := sim_start r l hc nd ga
  have tk : Takes (cxOf (L2.CX P w) P w K mg base N qual (defScope st) f cdv A outer s H E) (XW ⟨H, G, as⟩ K fun C ds _ M => (∀ c ∈ M.take cs.length, DL.C.flat c = true) ∧ X0 C ds (M.take cs.length)) :=
    Takes.imp (takes_of (E := E) rfl rfl rfl rfl) fun cls d σ' H' ⟨C, ds, g, ρ, M, ec, Z', xd, hf, x0⟩ => by
      subst ec
      rw [hc.1] at hf x0
      obtain ⟨A1, C1⟩ := sim_end Z' hf
      exact hX C ds _ x0 d H' g.G A1 C1 xd
  have B := hbody cdv A outer s H E ⟨H, G, as⟩ ss cs Q0 X0 hr hgu hsd (by rw [← r.length, hl]) hc.1.symm tk
  refine ⟨_, pb_s (X := cxOf (L2.CX P w) P w K mg base N qual (defScope st) f cdv A outer s H E), sB_mono (B.run _ _ _ Z) ⟨fun σ' H' ⟨ρ', M', g', lg, Z', q⟩ => ?_, fun v H' ⟨t, ρ', M', σ', g', lg, rv, Z', q⟩ => ?_, fun _ _ ⟨_, _, _, _, _, q⟩ => q, fun _ _ ⟨_, _, _, _, _, q⟩ => q⟩⟩
  · obtain ⟨hf, q⟩ := q
    rw [hc.1] at hf q
    obtain ⟨A1, C1⟩ := sim_end Z' hf
    rcases q with ⟨y, ey, q⟩ | ⟨n, c, ey, _⟩
    · cases ey
      exact hQ _ _ q .non H' g'.G A1 C1 Rep.non
    · cases ey
  · obtain ⟨hf, q⟩ := q
    rw [hc.1] at hf q
    obtain ⟨A1, C1⟩ := sim_end Z' hf
    rcases q with ⟨y, ey, q⟩ | ⟨n, c, ey, hn, em, hcf, q⟩
    · subst ey
      exact hQ _ _ q v H' g'.G A1 C1 rv
    · subst ey
      obtain ⟨a, rfl, ea⟩ := rv
      obtain ⟨ll, el⟩ := Z'.pre
      have a0 : a ∉ as := fun h => by
        obtain ⟨j, hj, ej⟩ := List.getElem_of_mem h
        have el : g'.θ = as ++ ll := el
        have q : g'.θ[j]? = some a := by
          rw [el, List.getElem?_append_left hj, List.getElem?_eq_getElem hj, ej]
        have := nodup_get Z'.nd q ea
        omega
      exact hQ _ _ q (.ref a) H' g'.G A1 C1 ⟨a, rfl, (Z'.own a (List.mem_of_getElem? ea)).resolve_left a0, (Z'.go n c a em ea).resolve_left (flat_dead hcf), hcf, (Z'.ob n c a em ea).flat hcf⟩
end
/-! ### raise C('..'), C of the text without an own __init__ -/
structure ErrC (K : PySem.W.Frag) (mg : Str → Option Value) (x : Str) (C : Addr) : Prop where
  gC : mg x = some (.ref C)
  ex : PySem.W.excIn K C [.type "ValueError", .type "Exception", .type "BaseException", .type "object"] "ValueError.__new__" = true
  kp : PySem.W.keepIn K (.ref C) = true
  sb : PySem.W.subIn K (.ref C) (.type "BaseException") = some true
  ty : PySem.W.typeIn K (.ref C) = some (.type "type")
section
variable {X : Cx} {F : Fc} {ρ : Rho} {M : Mem} {N : DEnds} {q : QX} {x m : Str} {C : Addr} {j : Nat} {p p2 pos pos2 : Pos}
theorem ds_raise0 {B initId : String} (Fx : ExcBaseFacts B "ValueError.__new__" initId [.type "ValueError", .type "Exception", .type "BaseException", .type "object"]) (hc : X.calm = true) (tk : Takes X (XW F X.K q)) (R : ErrC X.K X.mg x C) (hg : Gl X x) (hdb : (x == ("__debug__" : Str)) = false) (h : q C [] ρ M) :
    DS F X (.Raise (some (.Call (.Name x p) [.Constant (.str m) j p2] [] pos)) none pos2) ρ M N := ⟨fun g σ H Z =>
  of_ps (ps_raise hc tk (pmk_own Fx R.ex R.gC R.kp (raises_own R.sb R.ty) hg hdb)) ⟨C, [], g, ρ, M, rfl, Z, .inl ⟨rfl, rfl⟩, h⟩⟩
end
/-! ### a call of a def that may raise -/
structure SpDX (F : Fc) (X : Cx) (sp : Sp) (ss : List S) (ρ : Rho) (M : Mem) (Q : S → Mem → Prop) (q : QX) : Prop where
  run : ∀ g0 g σ H vs, Gle g0 g → Sim X.K F g ρ M σ H → RepSs X.K g vs ss → sp vs H (Post X.K F ρ σ g0 Q) (fun cls d H' => XW F X.K q cls d σ H')
section
variable {X : Cx} {F : Fc} {ρ : Rho} {M : Mem} {Q : S → Mem → Prop} {q : QX}
theorem spx0 {sd : SdX} {np : Nat} {ss : List S} (hf : ss.all flatS = true) (hl : ss.length = np) (h : sd ss [] (fun r _ => Got M Q r) fun C ds _ => q C ds ρ M) : SpDX F X (spX X.K np sd) ss ρ M Q q := ⟨fun g0 g σ H vs l0 Z r => by
  have r2 : RepSs X.K ⟨g.G, []⟩ vs ss := repSs_flat (θ := g.θ) hf r
  refine ⟨by rw [r2.length, hl], ss, [], g.G, [], r2, Z.sub, ⟨rfl, fun i c a e => by simp at e⟩, List.nodup_nil, fun a h => by simp at h, _, _, h, fun r cs' q v H' G' A C1 rv => ?_, fun C ds cs' x0 d H' G' A C1 xd => ?_⟩
  · obtain ⟨Z', L⟩ := Z.after (M' := M) (fun a h => by simp at h) A rfl (fun i c a e1 e2 => .inl ⟨by simp, e1⟩)
    exact (post_ret Z Z' L rv q).le l0
  · obtain ⟨Z', L⟩ := Z.after (M' := M) (fun a h => by simp at h) A rfl (fun i c a e1 e2 => .inl ⟨by simp, e1⟩)
    exact ⟨C, ds, ⟨G', g.θ⟩, ρ, M, rfl, Z', xd, x0⟩⟩
theorem runGX {W : WX} {k : Nat} {f : Addr} {fd : FuncData} {ps : List Str} {sp : Sp} {pins : List (Addr × Obj)} {σ : L2.St} {H : Hp} {s : Shared} {QV : VK} {us : List Value} {vs : List V} (G : FnG X.prog X.w X.K X.mg X.base (L2.CX X.prog X.w) k f fd ps sp) (hr : Room k X.A) (hg : X.A.guards = some []) (hb : Binds X.K fd ps []) (tk : Takes X W)
    (I : Inv X pins σ H s) (r : Vals vs us) (h : sp vs H QV fun cls d H' => W cls d σ H') : wpAny (model X.prog X.w) X.A (call (.ref f) us) (EP X pins σ QV) X.xe s := by
  have hb2 : BindsTo s fd ⟨us, []⟩ (ps.zip us) := by
    have := hb s us I.kIn (by rw [List.append_nil]; exact r.length.symm.trans (G.len _ _ _ _ h))
    rwa [List.append_nil] at this
  refine wpAny_call (codeAny_mono (G.run X.A X.stack s H ⟨us, []⟩ us vs QV _ hr hg I.env0 hb2 r h) fun rs s1 hq => ?_)
  cases rs with
  | error er => exact passAt tk σ pins H s er s1 I hq
  | ok fl =>
    cases fl with
    | ret u => exact I.after hq
    | _ => exact (show False from hq).elim
end
structure CalX (P : Program) (w : World) (K : PySem.W.Frag) (mg : Str → Option Value) (base : Heap) (k : Nat) (x : Str) (ps : List Str) (sd : SdX) : Prop where
  ex : ∃ f fd, FnG P w K mg base (L2.CX P w) k f fd ps (spX K ps.length sd) ∧ mg x = some (.ref f) ∧ PySem.W.keepIn K (.ref f) = true ∧ Binds K fd ps []
section
variable {X : Cx} {F : Fc} {ρ : Rho} {M : Mem} {Q : S → Mem → Prop} {q : QX} {e : Expr} {es : List Expr} {pos p : Pos} {x : Str}
theorem de_ownX {k j : Nat} {ps : List Str} {sd : SdX} (c : CalX X.prog X.w X.K X.mg X.base k x ps sd) (tk : Takes X (XW F X.K q)) (hr : Room j X.A) (hgu : X.A.guards = some []) (hkj : k ≤ j) (hg : Gl X x)
    (hdb : (x == ("__debug__" : Str)) = false) (he : starEach (e :: es) X.env = (false, eval e X.env) :: starEach es X.env) (hpl : (backTo pos (starEach es X.env)).any (·.1) = false)
    (h : DA F X (e :: es) ρ M fun ss M1 => SpDX F X (spX X.K ps.length sd) ss ρ M1 Q q) : DE F X (.Call (.Name x p) (e :: es) [] pos) ρ M Q := by
  obtain ⟨f, fd, G, hm, hk, hb⟩ := c.ex
  refine ⟨fun g σ H Z pins s I => ?_⟩
  refine wpAny_Call_Name_kw (ld_glob I hg hm ?_ hdb)
  refine PySem.W.callWith_K (h₀ := X.base) I.ok.mod.kin hk (thn (h.run g σ H Z pos pins s I) fun us s1 ⟨vs, H1, I1, r1, ss, M1, g1, l1, rs, Z1, q1⟩ => ⟨I1.kIn, ?_⟩) he hpl
  exact runGX G (hr.mono hkj) hgu hb tk I1 r1 (q1.run g g1 σ H1 vs l1 Z1 rs)
end
/-! ### try .. except C as e -/
section
variable {X : Cx} {F : Fc} {ρ : Rho} {M : Mem} {N : DEnds} {qi qo : QX} {x n : Str} {Cc : Addr} {i : Nat} {body suite : List Stmt} {b₀ : Stmt} {np pos pos' : Pos}
/-- the ends of a suite: its name is gone behind it -/
def sufEnds (N : DEnds) (i : Nat) : DEnds := { nx := fun ρ M => N.nx (ρ.set i none) M, rt := N.rt, bk := fun ρ M => N.bk (ρ.set i none) M, ct := fun ρ M => N.ct (ρ.set i none) M }
theorem ends_unbase {K : PySem.W.Frag} {g : Gh} {σ : L2.St} {H : Hp} (Z : Sim K F g ρ M σ H) : ELe (EndsOf K ⟨H, g.G, g.θ⟩ g N) (EndsOf K F g N) :=
  ⟨fun _ _ ⟨ρ, M, g', k, z, r⟩ => ⟨ρ, M, g', k, (Z.unbase z).1, r⟩, fun _ _ ⟨d, ρ, M, σ, g', k, rv, z, r⟩ => ⟨d, ρ, M, σ, g', k, rv, (Z.unbase z).1, r⟩, fun _ _ ⟨ρ, M, g', k, z, r⟩ => ⟨ρ, M, g', k, (Z.unbase z).1, r⟩, fun _ _ ⟨ρ, M, g', k, z, r⟩ => ⟨ρ, M, g', k, (Z.unbase z).1, r⟩⟩
theorem ds_try_as (hs : X.stack = X.env :: X.outer) (hf : X.env.frame = some X.env.locals) (hN : X.N.Nodup) (hi : X.N[i]? = some n) (hln : X.env.kindOf n = some .local) (hc : Names X x (.ref Cc)) (tk : Takes X (XW F X.K qo))
    (hb : ∀ (F' : Fc) (pn : List (Addr × Obj)) (xe : Value → Shared → Prop), Takes (X.tr pn xe) (XW F' X.K qi) → DB F' (X.tr pn xe) body ρ M N)
    (hsu : ∀ C ds ρ' M', qi C ds ρ' M' → ∃ b, PySem.W.exmOne X.K (.ref C) (.ref Cc) = some b ∧ (b = true → ∀ (a : Addr) (oe : Obj) (d : Option Addr) (pn : List (Addr × Obj)), Zc (.ref C) d oe → (∃ vs, oe.data = .fields vs) → DB F (X.suite a ((a, oe) :: pn)) (b₀ :: suite) (ρ'.set i (some (.d (.raw (.ref a))))) M' (sufEnds N i)) ∧ (b = false → qo C ds ρ' M')) :
    DS F X (.Try body [.ExceptHandler (some (.Name x np)) (some n) (b₀ :: suite) pos'] [] [] pos) ρ M N := ⟨fun g σ H Z => by
  refine of_ps (ps_try_as (tb := fun W D σ H => ∀ (pn : List (Addr × Obj)) (xe : Value → Shared → Prop), Takes (X.tr pn xe) W → PassesOwn (model X.prog X.w) X.A X.env xe → sB (X.tr pn xe) body D σ H)
    (ts := fun a cls d D σ H => ∀ (oe : Obj) (pn : List (Addr × Obj)), Zc cls d oe → (∃ vs, oe.data = .fields vs) → sB (X.suite a ((a, oe) :: pn)) (b₀ :: suite) D σ H) hs hf hN hi hln hc tk
    (fun W pn xe tk po => ⟨fun pins s σ H D I h => h pn xe tk po pins s I⟩) (fun a oe cls d pn hz hv => ⟨fun pins s σ H D I h => h oe pn hz hv pins s I⟩)) ?_
  intro pn xe tkb po
  have tki : Takes (X.tr pn xe) (XW ⟨H, g.G, g.θ⟩ X.K qi) := Takes.imp tkb fun cls d σ' H' ⟨C, ds, g', ρ', M', ec, Z', xd, hq⟩ => by
    subst ec
    obtain ⟨Zu, L⟩ := Z.unbase Z'
    obtain ⟨b, h1, hy, hn⟩ := hsu C ds ρ' M' hq
    refine ⟨b, h1, fun e a ha oe pn2 hz hv => ?_, fun e => ⟨C, ds, g', ρ', M', rfl, Zu, xd, hn e⟩⟩
    have Zs := Zu.set (i := i) (v := .ref a) (s := .d (.raw (.ref a))) (Rep.raw _)
    refine sB_mono ((hy e a oe d pn2 hz hv).run g' _ H' Zs) ⟨fun _ _ ⟨ρ2, M2, g2, k, z, r⟩ => ⟨ρ2.set i none, M2, g2, L.trans k, z.wipe i, r⟩, fun _ _ ⟨d2, ρ2, M2, σ2, g2, k, rv, z, r⟩ => ⟨d2, ρ2, M2, σ2, g2, L.trans k, rv, z, r⟩, fun _ _ ⟨ρ2, M2, g2, k, z, r⟩ => ⟨ρ2.set i none, M2, g2, L.trans k, z.wipe i, r⟩, fun _ _ ⟨ρ2, M2, g2, k, z, r⟩ => ⟨ρ2.set i none, M2, g2, L.trans k, z.wipe i, r⟩⟩
  exact sB_mono ((hb ⟨H, g.G, g.θ⟩ pn xe tki).run g σ H Z.rebase) (ends_unbase Z)⟩
end
end DL
end

section
set_option Elab.async false
set_option linter.all false
set_option maxRecDepth 100000
set_option maxHeartbeats 400000
namespace DL
open PySem PySem.Spec PyProof.Rows L2
/-! ### while, x += e, reversed(range(n)) -/
section
variable {X : Cx} {F : Fc} {ρ : Rho} {M : Mem} {Q : S → Mem → Prop} {N : DEnds} {e c : Expr} {pos tpos p : Pos} {x : Str}
/-- while: an invariant, and a number that falls -/
theorem ds_while {body : List Stmt} (hp : PassesOwn (model X.prog X.w) X.A X.env X.xe) (I : Rho → Mem → Prop) (μ : Rho → Mem → Nat) (i0 : I ρ M)
    (turn : ∀ ρ' M', I ρ' M' → DT F X c ρ' M' fun k M'' => (k = true → DB F X body ρ' M'' (turnEnds N fun ρ2 M2 => I ρ2 M2 ∧ μ ρ2 M2 < μ ρ' M')) ∧ (k = false → N.nx ρ' M'')) : DS F X (.While c body [] pos) ρ M N := ⟨fun g σ H Z => of_ps (ps_while hp pt_s pb_s) <| by
  refine ⟨fun m σ' H' => ∃ ρ' M' g', Gle g g' ∧ Sim X.K F g' ρ' M' σ' H' ∧ I ρ' M' ∧ m = μ ρ' M', ⟨_, ρ, M, g, Gle.refl g, Z, i0, rfl⟩, ?_⟩
  rintro m σ1 H1 ⟨ρ1, M1, g1, l1, Z1, i1, rfl⟩
  refine tT_mono ((turn ρ1 M1 i1).run g1 σ1 H1 Z1) fun k H2 ⟨M2, g2, l2, Z2, q1, q2⟩ => ?_
  cases k with
  | true =>
    rw [if_pos rfl]
    refine ⟨fun σ' H' => ∃ ρ' M' g', Gle g g' ∧ Sim X.K F g' ρ' M' σ' H' ∧ I ρ' M' ∧ μ ρ' M' < μ ρ1 M1, fun σ' H' ⟨ρ', M', g', l, Z', i', lt⟩ => ⟨_, lt, ρ', M', g', l, Z', i', rfl⟩, ?_⟩
    have L := l1.trans l2
    exact sB_mono ((q1 rfl).run g2 σ1 H2 Z2) ⟨fun _ _ ⟨ρ, M, g3, k, r, i, lt⟩ => ⟨ρ, M, g3, L.trans k, r, i, lt⟩, fun _ _ ⟨d, ρ, M, σ, g3, k, r⟩ => ⟨d, ρ, M, σ, g3, L.trans k, r⟩, fun _ _ ⟨ρ, M, g3, k, r⟩ => ⟨ρ, M, g3, L.trans k, r⟩, fun _ _ ⟨ρ, M, g3, k, r, i, lt⟩ => ⟨ρ, M, g3, L.trans k, r, i, lt⟩⟩
  | false =>
    rw [if_neg Bool.false_ne_true]
    exact ⟨ρ1, M2, g2, l1.trans l2, Z2, q2 rfl⟩⟩
theorem ds_augW {i : Nat} {op : Operator} {f : Int → Int → Int} {pos' : Pos} (hN : X.N.Nodup) (hi : X.N[i]? = some x) (hx : Loc X.env.scope x) (ho : PIp X op (ipI f)) (hf : X.fn x = true ∨ X.env.scope.names.lookup x = some .local)
    (h : ∃ a : Int, ρ[i]? = some (some (.d (.int a))) ∧ DE F X e ρ M fun t M' => ∃ b : Int, t = .d (.int b) ∧ N.nx (ρ.set i (some (.d (.int (f a b))))) M') : DS F X (.AugAssign (.Name x pos') op e pos) ρ M N := ⟨fun g σ H Z => of_ps (ps_aug hN hi hx pe_s ho hf) <| by
  obtain ⟨a, ea, h⟩ := h
  obtain ⟨v, h1, rv⟩ := Z.sl i _ ea
  refine ⟨v, h1, tS_mono (h.run g σ H Z) fun w H1 ⟨t, M', g', l, r, Z', b, et, q⟩ => ?_⟩
  subst et
  refine ⟨a, b, rep_int rv, rep_int r, ρ.set i (some (.d (.int (f a b)))), M', g', l, Z'.set (v := .int (f a b)) (s := .d (.int (f a b))) (Rep.int _), q⟩⟩
theorem ds_augAdd {i : Nat} {pos' : Pos} (hN : X.N.Nodup) (hi : X.N[i]? = some x) (hx : Loc X.env.scope x) (hf : X.fn x = true ∨ X.env.scope.names.lookup x = some .local)
    (h : ∃ a : Int, ρ[i]? = some (some (.d (.int a))) ∧ DE F X e ρ M fun t M' => ∃ b : Int, t = .d (.int b) ∧ N.nx (ρ.set i (some (.d (.int (a + b))))) M') : DS F X (.AugAssign (.Name x pos') .Add e pos) ρ M N := ds_augW hN hi hx ip_add hf h
theorem ds_augSub {i : Nat} {pos' : Pos} (hN : X.N.Nodup) (hi : X.N[i]? = some x) (hx : Loc X.env.scope x) (hf : X.fn x = true ∨ X.env.scope.names.lookup x = some .local)
    (h : ∃ a : Int, ρ[i]? = some (some (.d (.int a))) ∧ DE F X e ρ M fun t M' => ∃ b : Int, t = .d (.int b) ∧ N.nx (ρ.set i (some (.d (.int (a - b))))) M') : DS F X (.AugAssign (.Name x pos') .Sub e pos) ρ M N := ds_augW hN hi hx ip_sub hf h
/-- for i in reversed(range(n)): n - 1 down to 0 -/
theorem ds_forRev {tg : Expr} {body : List Stmt} {p2 p3 p4 : Pos} (hp : PassesOwn (model X.prog X.w) X.A X.env X.xe) (hc : X.calm = true) (hgr : Gl X "reversed") (hmr : X.mg "reversed" = none) (hg : Gl X "range") (hm : X.mg "range" = none) (hs : ∀ x, foldedSetIterable (.Call (.Name "reversed" p3) [.Call (.Name "range" p) [e] [] p2] [] p4) X.env x = pure x) (hst : starEach [e] X.env = (false, eval e X.env) :: starEach [] X.env) (hst2 : starEach [.Call (.Name "range" p) [e] [] p2] X.env = (false, eval (.Call (.Name "range" p) [e] [] p2) X.env) :: starEach [] X.env)
    (h : DE F X e ρ M fun s M' => ∃ n : Int, s = .d (.int n) ∧ 0 ≤ n ∧ n < 2 ^ 62 ∧ ∃ I : Nat → Rho → Mem → Prop, I 0 ρ M' ∧ (∀ (i : Nat) ρ' M'', (i : Int) < n → I i ρ' M'' → DG F X tg (.d (.int (n - 1 - i))) ρ' M'' fun ρ2 M2 => DB F X body ρ2 M2 (turnEnds N (I (i + 1)))) ∧ ∀ ρ' M'', I n.toNat ρ' M'' → N.nx ρ' M'') :
    DS F X (.For tg (.Call (.Name "reversed" p3) [.Call (.Name "range" p) [e] [] p2] [] p4) body [] pos) ρ M N := ⟨fun g σ H Z => of_ps (ps_for hp hc (pi_revR hgr hmr (prg_1 hg hm pe_s hst) hst2) pg_s pb_s hs) <|
  tS_mono (h.run g σ H Z) fun v H1 ⟨s, M', g', l, r, Z', n, es, n1, n2, I, i0, turn, done⟩ => by
    subst es
    rw [rep_int r]
    refine ⟨n, rfl, by decide, by decide, by omega, n2, for_rangeC (lo := 0 + (((n - 0).toNat : Nat) : Int) - 1) (c := -1) (n := (n - 0).toNat) (PvOf X.K F g' I) ⟨ρ, M', g', Gle.refl g', Z', i0⟩ ?_ ?_⟩
    · rintro i σ2 H2 hi ⟨ρ2, M2, g2, l2, Z2, i2⟩
      have e0 : (0 + (((n - 0).toNat : Nat) : Int) - 1) + (i : Int) * (-1) = n - 1 - i := by omega
      rw [e0]
      exact gS_mono ((turn i ρ2 M2 (by omega) i2).run g2 σ2 H2 _ Z2 rsI) fun σ3 H3 ⟨ρ3, M3, g3, l3, Z3, b3⟩ => sB_mono (b3.run g3 σ3 H3 Z3) (by
          have L := l2.trans l3
          have L' := l.trans L
          exact ⟨fun _ _ ⟨ρ, M, g2, k, r⟩ => ⟨ρ, M, g2, L.trans k, r⟩, fun _ _ ⟨d, ρ, M, σ, g2, k, r⟩ => ⟨d, ρ, M, σ, g2, L'.trans k, r⟩, fun _ _ ⟨ρ, M, g2, k, r⟩ => ⟨ρ, M, g2, L'.trans k, r⟩, fun _ _ ⟨ρ, M, g2, k, r⟩ => ⟨ρ, M, g2, L.trans k, r⟩⟩)
    · rintro σ2 H2 ⟨ρ2, M2, g2, l2, Z2, i2⟩
      rw [Int.sub_zero] at i2
      exact ⟨ρ2, M2, g2, l.trans l2, Z2, done _ _ i2⟩⟩
end
end DL
end

section
set_option Elab.async false
set_option linter.all false
set_option maxRecDepth 100000
set_option maxHeartbeats 400000
namespace DL
open PySem PySem.Spec PyProof.Rows L2
/-! ### the order of data: <, >, <=, >= -/
section
variable {X : Cx} {F : Fc} {ρ : Rho} {M : Mem} {Q : S → Mem → Prop}
def rCmpD (K : PySem.W.Frag) (u : Nat) (b : PyData → PyData → Bool) : R2 := fun x y H Q => ∃ G d e, Le G H ∧ Rep K G x d ∧ Rep K G y e ∧ okD d = true ∧ okD e = true ∧ PySem.W.alike (pyD d) (pyD e) = true ∧ pyD d ≠ .none ∧ u + min (pyD d).depth (pyD e).depth < cLine ∧ Q (.bl (b (pyD d) (pyD e))) H
theorem op_geD : OpR X (compareOp .GtE) (rCmpD X.K X.A.units fun a b => !PySem.W.dataLt a b) := by
  intro pins s σ H x y v u Q I rx ry h
  obtain ⟨G, d, e, l, r1, r2, o1, o2, al, hn, hu, q⟩ := h
  obtain ⟨as, a1, _⟩ := rep_reads I l o1 r1 rx
  obtain ⟨bs, b1, _⟩ := rep_reads I l o2 r2 ry
  exact PySem.W.ge_data a1 b1 al hn hu ⟨.bl _, H, I, rfl, q⟩
theorem op_ltD : OpR X (compareOp .Lt) (rCmpD X.K X.A.units fun a b => PySem.W.dataLt a b) := by
  intro pins s σ H x y v u Q I rx ry h
  obtain ⟨G, d, e, l, r1, r2, o1, o2, al, hn, hu, q⟩ := h
  obtain ⟨as, a1, _⟩ := rep_reads I l o1 r1 rx
  obtain ⟨bs, b1, _⟩ := rep_reads I l o2 r2 ry
  exact PySem.W.lt_data a1 b1 al hn hu ⟨.bl _, H, I, rfl, q⟩
theorem bd_geD {d e : D} (o1 : okD d = true) (o2 : okD e = true) (al : PySem.W.alike (pyD d) (pyD e) = true) (hn : pyD d ≠ .none) (hu : X.A.units + min (pyD d).depth (pyD e).depth < cLine) (q : Q (.d (.bl (!PySem.W.dataLt (pyD d) (pyD e)))) M) : BD F X (compareOp .GtE) (.d d) (.d e) ρ M Q := bd_of op_geD fun g σ H u v Z ru rv => ⟨g.G, d, e, Z.sub, ru, rv, o1, o2, al, hn, hu, post_at Z rsB q⟩
theorem bd_ltD {d e : D} (o1 : okD d = true) (o2 : okD e = true) (al : PySem.W.alike (pyD d) (pyD e) = true) (hn : pyD d ≠ .none) (hu : X.A.units + min (pyD d).depth (pyD e).depth < cLine) (q : Q (.d (.bl (PySem.W.dataLt (pyD d) (pyD e)))) M) : BD F X (compareOp .Lt) (.d d) (.d e) ρ M Q := bd_of op_ltD fun g σ H u v Z ru rv => ⟨g.G, d, e, Z.sub, ru, rv, o1, o2, al, hn, hu, post_at Z rsB q⟩

/-- y = [elt for x in t if ..], a statement of its own -/
theorem ds_setLcT {i j : Nat} {x y : Str} {px py : Pos} {elt iter : Expr} {ifs : List Expr} {scope : Scope} {pos spos : Pos} {N : DEnds} (hc : X.calm = true) (hN : X.N.Nodup) (hy : X.N[j]? = some y) (hyl : X.env.scope.names.lookup y = some .local)
    (hsw : swapsWith (.ListComp elt [⟨.Name x px, iter, ifs, 0⟩] scope pos) (some (.Name y py)) spos.line X.env = pure true) (ok : BlkOk X.N X.env.scope scope [(x, i)])
    (hg : ∀ (s : Shared) (H : Hp) (C : Addr) (cl : List (Str × Addr)) (fp : List Addr), PG (X.blk s H scope (compEnvC scope cl C X.env) fp) (.Name x px) (gName i)) (hs : ∀ x, foldedSetIterable iter X.env x = pure x)
    (h : DE F X iter ρ M fun s M' => ∃ ds, s = .d (.tup ds) ∧ ∃ I : Nat → List D → Mem → Prop, I 0 [] M' ∧ (∀ k d acc M1, ds[k]? = some d → I k acc M1 → M1.length = M'.length → LcTurn F X scope ifs elt ((ρ.set i none).set i (some (.d d))) M'.length acc M1 (fun acc' M4 => I (k + 1) acc' M4) (fun M4 => I (k + 1) acc M4)) ∧
      ∀ acc M1, I ds.length acc M1 → M1.length = M'.length → M1.all C.fd = true ∧ N.nx (ρ.set j (some (.d (.lst acc)))) M1) : DS F X (.Assign [.Name y py] (.ListComp elt [⟨.Name x px, iter, ifs, 0⟩] scope pos) spos) ρ M N := ⟨fun g σ H Z => of_ps (ps_setLc (i := j) (own := [(x, i)]) (g := gName i) (tt := ttA X scope ifs) (te := teA X scope elt) hc hN hy hyl hsw (pi_tup pe_s) ok hg
      (fun s H C cl fp => ⟨fun pins s1 σ H' Q I h => h s H C cl fp pins s1 I⟩) (fun s H C cl fp => ⟨fun pins s1 σ H' Q I h => h s H C cl fp pins s1 I⟩) hs) <|
  tS_mono (h.run g σ H Z) fun v H1 ⟨s, M', g', l, r, Z', ds, es, I, i0, turn, done⟩ => by
    subst es
    obtain ⟨a, xs, rfl, h1, h2⟩ := repTup r
    refine ⟨a, rfl, ⟨xs, le_t Z'.sub h1⟩, fun D0 hD => lc_tup (K := X.K) (a := a) (xs := xs) (LcPv X.K F g' D0 (ρ.set i none) (σ.set i none) M'.length I) (lc_start Z' hD i0) (fun k H2 _ ⟨acc, M1, G', l', _, Z1, _⟩ => le_t (l'.trans Z1.sub) h1) (fun k y H2 hk P => ?_) (fun H2 P => ?_)⟩
    · obtain ⟨d, hd, rd⟩ := h2.getV hk
      exact lc_step (v := y) rd Z'.ml P (fun acc M1 q hl => turn k d acc M1 hd q hl)
    · rw [h2.length] at P
      obtain ⟨s2, M2, g2, l2, r2, Z2, q⟩ := lc_end (Q := fun t M2 => ∃ acc, t = .d (.lst acc) ∧ N.nx (ρ.set j (some (.d (.lst acc)))) M2) Z' l P (fun acc M1 a b => ⟨(done acc M1 a b).1, acc, rfl, (done acc M1 a b).2⟩)
      obtain ⟨acc, es2, q⟩ := q
      subst es2
      exact ⟨_, M2, g2, l2, Z2.set r2, q⟩⟩

/-- y = [elt for x in t if ..], a statement of its own -/
theorem ds_setLcL {i j : Nat} {x y : Str} {px py : Pos} {elt iter : Expr} {ifs : List Expr} {scope : Scope} {pos spos : Pos} {N : DEnds} (hc : X.calm = true) (hN : X.N.Nodup) (hy : X.N[j]? = some y) (hyl : X.env.scope.names.lookup y = some .local)
    (hsw : swapsWith (.ListComp elt [⟨.Name x px, iter, ifs, 0⟩] scope pos) (some (.Name y py)) spos.line X.env = pure true) (ok : BlkOk X.N X.env.scope scope [(x, i)])
    (hg : ∀ (s : Shared) (H : Hp) (C : Addr) (cl : List (Str × Addr)) (fp : List Addr), PG (X.blk s H scope (compEnvC scope cl C X.env) fp) (.Name x px) (gName i)) (hs : ∀ x, foldedSetIterable iter X.env x = pure x)
    (h : DE F X iter ρ M fun s M' => ∃ ds, s = .d (.lst ds) ∧ ∃ I : Nat → List D → Mem → Prop, I 0 [] M' ∧ (∀ k d acc M1, ds[k]? = some d → I k acc M1 → M1.length = M'.length → LcTurn F X scope ifs elt ((ρ.set i none).set i (some (.d d))) M'.length acc M1 (fun acc' M4 => I (k + 1) acc' M4) (fun M4 => I (k + 1) acc M4)) ∧
      ∀ acc M1, I ds.length acc M1 → M1.length = M'.length → M1.all C.fd = true ∧ N.nx (ρ.set j (some (.d (.lst acc)))) M1) : DS F X (.Assign [.Name y py] (.ListComp elt [⟨.Name x px, iter, ifs, 0⟩] scope pos) spos) ρ M N := ⟨fun g σ H Z => of_ps (ps_setLc (i := j) (own := [(x, i)]) (g := gName i) (tt := ttA X scope ifs) (te := teA X scope elt) hc hN hy hyl hsw (pi_list pe_s) ok hg
      (fun s H C cl fp => ⟨fun pins s1 σ H' Q I h => h s H C cl fp pins s1 I⟩) (fun s H C cl fp => ⟨fun pins s1 σ H' Q I h => h s H C cl fp pins s1 I⟩) hs) <|
  tS_mono (h.run g σ H Z) fun v H1 ⟨s, M', g', l, r, Z', ds, es, I, i0, turn, done⟩ => by
    subst es
    obtain ⟨a, xs, rfl, h1, h2⟩ := repLst r
    refine ⟨a, rfl, ⟨xs, le_l Z'.sub h1⟩, fun D0 hD => lc_list (K := X.K) (a := a) (xs := xs) (LcPv X.K F g' D0 (ρ.set i none) (σ.set i none) M'.length I) (lc_start Z' hD i0) (fun k H2 _ ⟨acc, M1, G', l', _, Z1, _⟩ => le_l (l'.trans Z1.sub) h1) (fun k y H2 hk P => ?_) (fun H2 P => ?_)⟩
    · obtain ⟨d, hd, rd⟩ := h2.getV hk
      exact lc_step (v := y) rd Z'.ml P (fun acc M1 q hl => turn k d acc M1 hd q hl)
    · rw [h2.length] at P
      obtain ⟨s2, M2, g2, l2, r2, Z2, q⟩ := lc_end (Q := fun t M2 => ∃ acc, t = .d (.lst acc) ∧ N.nx (ρ.set j (some (.d (.lst acc)))) M2) Z' l P (fun acc M1 a b => ⟨(done acc M1 a b).1, acc, rfl, (done acc M1 a b).2⟩)
      obtain ⟨acc, es2, q⟩ := q
      subst es2
      exact ⟨_, M2, g2, l2, Z2.set r2, q⟩⟩
/-- x, y, z = a, b, c -/
theorem ds_par3 {a b c : Expr} {i j l : Nat} {x y z : Str} {px py pz pt pt2 pos : Pos} {kt k2 : Nat} {N : DEnds} (hc : X.calm = true) (hN : X.N.Nodup) (hi : X.N[i]? = some x) (hj : X.N[j]? = some y) (hl : X.N[l]? = some z) (hij : i ≠ j) (hil : i ≠ l) (hjl : j ≠ l)
    (hx : X.env.scope.names.lookup x = some .local) (hy : X.env.scope.names.lookup y = some .local) (hz : X.env.scope.names.lookup z = some .local)
    (hw : swappedStores [.Tuple [.Name x px, .Name y py, .Name z pz] kt pt] (.Tuple [a, b, c] k2 pt2) X.env = pure (some [x, y, z]))
    (hs : swapsWithSole [.Tuple [.Name x px, .Name y py, .Name z pz] kt pt] (.Tuple [a, b, c] k2 pt2) pos.line X.env = pure false)
    (h : DE F X a ρ M fun s M1 => DE F X b ρ M1 fun t M2 => DE F X c ρ M2 fun u M3 => N.nx (((ρ.set i (some s)).set j (some t)).set l (some u)) M3) (ha : starEach [a, b, c] X.env = (false, eval a X.env) :: starEach [b, c] X.env) (hb : starEach [b, c] X.env = (false, eval b X.env) :: starEach [c] X.env) (hd : starEach [c] X.env = (false, eval c X.env) :: starEach [] X.env) :
    DS F X (.Assign [.Tuple [.Name x px, .Name y py, .Name z pz] kt pt] (.Tuple [a, b, c] k2 pt2) pos) ρ M N := ⟨fun g σ H Z => of_ps (ps_par3 hc hN hi hj hl hij hil hjl hx hy hz (pa_cons pe_s (pa_cons pe_s (pa_cons pe_s pa_nil hd) hb) ha) hw hs) <|
  tS_mono (h.run g σ H Z) fun v H1 ⟨s, M1, g1, l1, r1, Z1, q1⟩ => tS_mono (q1.run g1 σ H1 Z1) fun w H2 ⟨t, M2, g2, l2, r2, Z2, q2⟩ => tS_mono (q2.run g2 σ H2 Z2) fun w2 H3 ⟨u, M3, g3, l3, r3, Z3, q3⟩ => ⟨v, w, w2, rfl, _, M3, g3, (l1.trans l2).trans l3, ((Z3.set (r1.mono (l2.trans l3))).set (r2.mono l3)).set r3, q3⟩⟩
end
end DL
end

section
set_option Elab.async false
set_option linter.all false
set_option maxRecDepth 100000
set_option maxHeartbeats 400000
namespace DL
open PySem PySem.Spec PyProof.Rows L2
/-! ### lists that may still change: isinstance, [e for x in l], l[:k] -/
section
variable {X : Cx} {F : Fc} {ρ : Rho} {M : Mem} {Q : S → Mem → Prop} {e o : Expr} {pos tpos p : Pos} {x : Str}
theorem cd_isiP {n : Nat} {ss : List S} {U : String} {r : Bool} (hv : M[n]? = some (.lst ss)) (hk : kitB "list" U = some r) (q : Q (.d (.bl r)) M) : CD F X (.builtin "isinstance") [.p n, .d (.raw (.ty U))] ρ M Q := cd_of call_isi fun g σ H us Z ru => by
  obtain ⟨v, w, rfl, rv, rw'⟩ := ss2 ru
  rw [show w = .ty U from rep_raw rw']
  obtain ⟨a, rfl, ea⟩ := rv
  obtain ⟨xs, h1, _⟩ := Z.ob n _ a hv ea
  exact ⟨.ref a, .ty U, .type "list", .type U, r, rfl, .ty U, tyX_list (SqL.of h1), kit_ty hk, post_at Z rsB q⟩
theorem repSs_strs {K : PySem.W.Frag} {g : Gh} : ∀ {vs : List V} (zs : List Str), RepSs K g vs ((zs.map D.str).map S.d) → vs = zs.map V.str
  | _, [], .nil => rfl
  | _, z :: zs, .cons r t => by
    rw [repSs_strs zs t, rep_str r]
    rfl
/-- [elt for x in l if ..], l a list of texts that may still change -/
theorem de_lcPS {i : Nat} {px : Pos} {elt iter : Expr} {ifs : List Expr} {scope : Scope} (hc : X.calm = true) (hN : X.N.Nodup) (ok : BlkOk X.N X.env.scope scope [(x, i)])
    (hg : ∀ (s : Shared) (H : Hp) (C : Addr) (cl : List (Str × Addr)) (fp : List Addr), PG (X.blk s H scope (compEnvC scope cl C X.env) fp) (.Name x px) (gName i)) (hs : ∀ x, foldedSetIterable iter X.env x = pure x)
    (h : DE F X iter ρ M fun s M' => ∃ (n : Nat) (zs : List Str), s = .p n ∧ M'[n]? = some (.lst ((zs.map D.str).map S.d)) ∧ ∃ I : Nat → List D → Mem → Prop, I 0 [] M' ∧ (∀ k acc M1, I k acc M1 → M1.length = M'.length → M1[n]? = some (.lst ((zs.map D.str).map S.d))) ∧
      (∀ k z acc M1, zs[k]? = some z → I k acc M1 → M1.length = M'.length → LcTurn F X scope ifs elt ((ρ.set i none).set i (some (.d (.str z)))) M'.length acc M1 (fun acc' M4 => I (k + 1) acc' M4) (fun M4 => I (k + 1) acc M4)) ∧
      ∀ acc M1, I zs.length acc M1 → M1.length = M'.length → M1.all C.fd = true ∧ Q (.d (.lst acc)) M1) : DE F X (.ListComp elt [⟨.Name x px, iter, ifs, 0⟩] scope pos) ρ M Q := ⟨fun g σ H Z => of_pe (pe_lc (own := [(x, i)]) (g := gName i) (tt := ttA X scope ifs) (te := teA X scope elt) hc hN (pi_list pe_s) ok hg
      (fun s H C cl fp => ⟨fun pins s1 σ H' Q I h => h s H C cl fp pins s1 I⟩) (fun s H C cl fp => ⟨fun pins s1 σ H' Q I h => h s H C cl fp pins s1 I⟩) hs) <|
  tS_mono (h.run g σ H Z) fun v H1 ⟨s, M', g', l, r, Z', n, zs, es, em, I, i0, keep, turn, done⟩ => by
    subst es
    obtain ⟨a, rfl, ea⟩ := r
    obtain ⟨xs, h1, h2⟩ := Z'.ob n _ a em ea
    have exs := repSs_strs zs h2
    subst exs
    refine ⟨a, rfl, ⟨_, SqL.of h1⟩, fun D0 hD => lc_list (K := X.K) (a := a) (xs := zs.map V.str) (LcPv X.K F g' D0 (ρ.set i none) (σ.set i none) M'.length I) (lc_start Z' hD i0) (fun k H2 _ ⟨acc, M1, G', l', hl, Z1, i1⟩ => ?_) (fun k y H2 hk P => ?_) (fun H2 P => ?_)⟩
    · have e1 : (M1 ++ [C.lst (acc.map S.d)])[n]? = some (.lst ((zs.map D.str).map S.d)) := by
        have e0 := keep k acc M1 i1 hl
        rw [List.getElem?_append_left (List.getElem?_eq_some_iff.mp e0).1]
        exact e0
      have e2 : (g'.θ ++ [D0])[n]? = some a := by
        rw [List.getElem?_append_left (List.getElem?_eq_some_iff.mp ea).1]
        exact ea
      obtain ⟨ys, k1, k2⟩ := Z1.ob n _ a e1 e2
      rw [← repSs_strs zs k2]
      exact SqL.of k1
    · rw [List.getElem?_map] at hk
      obtain ⟨z, hz, rfl⟩ := Option.map_eq_some_iff.mp hk
      exact lc_step (v := .str z) (Rep.str _) Z'.ml P (fun acc M1 q hl => turn k z acc M1 hz q hl)
    · rw [List.length_map] at P
      exact lc_end Z' l P done⟩
theorem bd_isB {a b : Bool} (q : Q (.d (.bl (decide (a = b)))) M) : BD F X (compareOp .Is) (.d (.bl a)) (.d (.bl b)) ρ M Q := bd_of op_isBl fun g σ H u v Z ru rv => by
  rw [rep_bl ru, rep_bl rv]
  exact ⟨a, b, rfl, rfl, post_at Z rsB q⟩
theorem repSs_last {K : PySem.W.Frag} {g : Gh} : ∀ {vs : List V} {ss : List S} {t : S}, RepSs K g vs (ss ++ [t]) → ∃ vs0 v0, vs = vs0 ++ [v0] ∧ RepSs K g vs0 ss ∧ RepS K g v0 t
  | _, [], _, .cons r .nil => ⟨[], _, rfl, .nil, r⟩
  | _, s :: ss, _, .cons r rs => by
    obtain ⟨vs0, v0, rfl, h1, h2⟩ := repSs_last rs
    exact ⟨_ :: vs0, v0, rfl, .cons r h1, h2⟩
/-- a call that is handed one object to change, its last argument -/
theorem spdL {sd : Sd} {np n : Nat} {c : C} {ss full : List S} (e : M[n]? = some c) (hfull : full = ss ++ [.p n]) (hc : c.flat = true) (hf : ss.all flatS = true) (hl : ss.length + 1 = np)
    (h : sd (ss ++ [.p 0]) [c] fun r cs' => ∃ c', cs' = [c'] ∧ Got (M.set n c') Q r) : SpD F X (spOf X.K np sd) [] full ρ M Q := ⟨fun g0 g σ H vs l0 Z r => by
  subst hfull
  obtain ⟨vs0, v0, rfl, rr, a, rfl, ea⟩ : ∃ vs0 v0, vs = vs0 ++ [v0] ∧ RepSs X.K g vs0 ss ∧ RepS X.K g v0 (.p n) := repSs_last r
  have r2 : RepSs X.K ⟨g.G, [a]⟩ (vs0 ++ [.ref a]) (ss ++ [.p 0]) := repSs_append (repSs_flat (θ := g.θ) hf rr) (.cons ⟨a, rfl, rfl⟩ .nil)
  have hct : Cont X.K g H a c := Z.ob n c a e ea
  rw [List.append_nil]
  refine ⟨by rw [r2.length, List.length_append, ← hl]; rfl, ss ++ [.p 0], [c], g.G, [a], r2, Z.sub, ⟨rfl, fun i c' b e1 e2 => ?_⟩, by simp, fun b hb => ?_, _, h, fun r cs' q v H' G' A C1 rv => ?_⟩
  · cases i with
    | zero =>
      cases e1; cases e2
      exact ⟨hc, hct.flat hc⟩
    | succ i => simp at e1
  · have : b = a := by simpa using hb
    subst this
    exact (Z.go n c b e ea).resolve_left (flat_dead hc)
  · obtain ⟨c', rfl, q⟩ := q
    obtain ⟨f1, f2⟩ := C1.2 0 c' a rfl rfl
    have hn : n < M.length := (List.getElem?_eq_some_iff.mp e).1
    obtain ⟨Z', L⟩ := Z.after (M' := M.set n c') (fun b h => by
      have : b = a := by simpa using h
      subst this
      exact List.mem_of_getElem? ea) A (by simp) (fun i c2 b e1 e2 => by
      by_cases hi : i = n
      · subst hi
        rw [List.getElem?_set_self hn] at e1
        cases e1
        rw [ea] at e2; cases e2
        exact .inr ⟨by simp, f2.flat f1⟩
      · rw [List.getElem?_set_ne (Ne.symm hi)] at e1
        exact .inl ⟨by simp; exact fun q => hi (nodup_get Z.nd e2 (by rw [q]; exact ea)), e1⟩)
    exact (post_ret Z Z' L rv q).le l0⟩
end
end DL
end

section
set_option Elab.async false
set_option linter.all false
set_option maxRecDepth 100000
set_option maxHeartbeats 400000
namespace DL
open PySem PySem.Spec PyProof.Rows L2
/-! ### a new list that is handed out, taken as data at once -/
def FzR (k : Rs → Prop) : Rs → Prop
  | .d x => k (.d x)
  | .new c => ∃ ds : List D, c = .lst (ds.map S.d) ∧ k (.d (.lst ds))
def sdFz (sd : Sd) : Sd := fun ss cs Q => sd ss cs fun r cs' => FzR (fun r' => Q r' cs') r
theorem spOf_fz {K : PySem.W.Frag} {np : Nat} {sd : Sd} {vs : List V} {H : Hp} {Q : VK} {E : XK} (h : spOf K np (sdFz sd) vs H Q E) : spOf K np sd vs H Q E := by
  obtain ⟨hl, ss, cs, G, as, r, l, hc, nd, ga, Q0, hsd, hQ⟩ := h
  refine ⟨hl, ss, cs, G, as, r, l, hc, nd, ga, _, hsd, fun rs cs' q v H' G' A C1 rv => ?_⟩
  cases rs with
  | d x => exact hQ _ _ q v H' G' A C1 rv
  | new c =>
    obtain ⟨ds, rfl, q⟩ := q
    obtain ⟨a, rfl, ha, ga', hf, xs, h1, h2⟩ := rv
    have L : Gle ⟨G', as⟩ ⟨upd G' a (.lst xs), as⟩ := ⟨Le.new ga', [], by simp⟩
    have na : a ∉ as := fun h => by
      obtain ⟨i, hi, e⟩ := List.getElem_of_mem h
      have q1 : cs[i]? = some (cs[i]'(by rw [hc.1]; exact hi)) := List.getElem?_eq_getElem _
      obtain ⟨f, ct⟩ := hc.2 i _ a q1 (by rw [List.getElem?_eq_getElem hi, e])
      obtain ⟨o, eo⟩ := ct.some (flat_dead f)
      rw [ha] at eo
      cases eo
    refine hQ _ _ q (.ref a) H' (upd G' a (.lst xs)) ⟨A.le.trans L.G, fun b o e => ?_, A.fr, fun b o e => ?_, fun b hb => ?_, A.tr⟩ ⟨C1.1, fun i c b e1 e2 => ?_⟩ (.lst (SqL.of upd_same) (RepL.mono L.G (repSs_datas (g := ⟨G', []⟩) h2 (datas_map ds))))
    · by_cases z : b = a
      · subst z; rw [upd_same] at e; cases e; exact h1
      · rw [upd_ne z] at e; exact A.sub _ _ e
    · by_cases z : b = a
      · subst z; exact .inr ha
      · rw [upd_ne z] at e; exact A.gn _ _ e
    · rw [upd_ne (fun z => na (by rw [← z]; exact hb))]
      exact A.go b hb
    · obtain ⟨f1, f2⟩ := C1.2 i c b e1 e2
      exact ⟨f1, f2.mono L fun _ e => e⟩
section
variable {P : Program} {w : World} {K : PySem.W.Frag} {mg : Str → Option Value} {base : Heap}
theorem FnG.fz {k : Nat} {f : Addr} {fd : FuncData} {ps : List Str} {np : Nat} {sd : Sd} (G : FnG P w K mg base CX0 k f fd ps (spOf K np sd)) : FnG P w K mg base CX0 k f fd ps (spOf K np (sdFz sd)) :=
  ⟨fun vs H Q E h => G.len vs H Q E (spOf_fz h), fun A out s H ar us vs Q E hr hg e0 hb hv h => G.run A out s H ar us vs Q E hr hg e0 hb hv (spOf_fz h)⟩
theorem Cal.fz {k : Nat} {x : Str} {ps : List Str} {sd : Sd} (c : Cal P w K mg base k x ps sd) : Cal P w K mg base k x ps (sdFz sd) := by
  obtain ⟨f, fd, G, r⟩ := c.ex
  exact ⟨f, fd, G.fz, r⟩
theorem CalK.fz {k : Nat} {x : Str} {ps ks : List Str} {gS : List S → List S} {sd : Sd} (c : CalK P w K mg base k x ps ks gS sd) : CalK P w K mg base k x ps ks gS (sdFz sd) := by
  obtain ⟨f, fd, G, r⟩ := c.ex
  exact ⟨f, fd, G.fz, r⟩
end
section
variable {X : Cx} {F : Fc} {ρ : Rho} {M : Mem} {Q : S → Mem → Prop} {e e2 : Expr} {pos p : Pos} {x : Str}
/-- [elt for x in range(lo, n) if ..] -/
theorem de_lcR2 {i : Nat} {px p2 : Pos} {elt : Expr} {ifs : List Expr} {scope : Scope} (hc : X.calm = true) (hN : X.N.Nodup) (ok : BlkOk X.N X.env.scope scope [(x, i)]) (hgl : Gl X "range") (hm : X.mg "range" = none) (hst : starEach [e, e2] X.env = [(false, eval e X.env), (false, eval e2 X.env)]) (hst2 : starEach [e2] X.env = [(false, eval e2 X.env)])
    (hg : ∀ (s : Shared) (H : Hp) (C : Addr) (cl : List (Str × Addr)) (fp : List Addr), PG (X.blk s H scope (compEnvC scope cl C X.env) fp) (.Name x px) (gName i)) (hs : ∀ x, foldedSetIterable (.Call (.Name "range" p) [e, e2] [] p2) X.env x = pure x)
    (h : DA F X [e, e2] ρ M fun ss M' => ∃ lo n : Int, ss = [.d (.int lo), .d (.int n)] ∧ (-(2 ^ 62) ≤ lo ∧ lo < 2 ^ 62 ∧ -(2 ^ 62) ≤ n ∧ n < 2 ^ 62) ∧ ∃ I : Nat → List D → Mem → Prop, I 0 [] M' ∧ (∀ (k : Nat) acc M1, lo + (k : Int) < n → I k acc M1 → M1.length = M'.length → LcTurn F X scope ifs elt ((ρ.set i none).set i (some (.d (.int (lo + (k : Int)))))) M'.length acc M1 (fun acc' M4 => I (k + 1) acc' M4) (fun M4 => I (k + 1) acc M4)) ∧
      ∀ acc M1, I (n - lo).toNat acc M1 → M1.length = M'.length → M1.all C.fd = true ∧ Q (.d (.lst acc)) M1) : DE F X (.ListComp elt [⟨.Name x px, .Call (.Name "range" p) [e, e2] [] p2, ifs, 0⟩] scope pos) ρ M Q := ⟨fun g σ H Z => of_pe (pe_lc (own := [(x, i)]) (g := gName i) (tt := ttA X scope ifs) (te := teA X scope elt) hc hN (pi_range2 hgl hm pa_s hst hst2) ok hg
      (fun s H C cl fp => ⟨fun pins s1 σ H' Q I h => h s H C cl fp pins s1 I⟩) (fun s H C cl fp => ⟨fun pins s1 σ H' Q I h => h s H C cl fp pins s1 I⟩) hs) <|
  tA_mono (h.run g σ H Z) fun vs H1 ⟨ss, M', g', l, r, Z', lo, n, es, hb, I, i0, turn, done⟩ => by
    subst es
    cases r with
    | cons r1 r =>
      cases r with
      | cons r2 r =>
        cases r
        rw [show _ = V.int lo from rep_int r1, show _ = V.int n from rep_int r2]
        refine ⟨lo, n, rfl, hb, fun D0 hD => lc_range (lo := lo) (n := (n - lo).toNat) (LcPv X.K F g' D0 (ρ.set i none) (σ.set i none) M'.length I) (lc_start Z' hD i0) (fun k H2 hk P => ?_) (fun H2 P => ?_)⟩
        · exact lc_step (v := .int (lo + (k : Int))) (Rep.int _) Z'.ml P (fun acc M1 q hl => turn k acc M1 (by omega) q hl)
        · exact lc_end Z' l P done⟩
/-- y = [elt for x in range(n) if ..], a statement of its own -/
theorem ds_setLcR {i j : Nat} {y : Str} {px py p2 : Pos} {elt : Expr} {ifs : List Expr} {scope : Scope} {spos : Pos} {N : DEnds} (hc : X.calm = true) (hN : X.N.Nodup) (hy : X.N[j]? = some y) (hyl : X.env.scope.names.lookup y = some .local)
    (hsw : swapsWith (.ListComp elt [⟨.Name x px, .Call (.Name "range" p) [e] [] p2, ifs, 0⟩] scope pos) (some (.Name y py)) spos.line X.env = pure true) (ok : BlkOk X.N X.env.scope scope [(x, i)]) (hgl : Gl X "range") (hm : X.mg "range" = none) (hst : starEach (e :: []) X.env = (false, eval e X.env) :: starEach [] X.env)
    (hg : ∀ (s : Shared) (H : Hp) (C : Addr) (cl : List (Str × Addr)) (fp : List Addr), PG (X.blk s H scope (compEnvC scope cl C X.env) fp) (.Name x px) (gName i)) (hs : ∀ x, foldedSetIterable (.Call (.Name "range" p) [e] [] p2) X.env x = pure x)
    (h : DE F X e ρ M fun s M' => ∃ n : Int, s = .d (.int n) ∧ -(2 ^ 62) ≤ n ∧ n < 2 ^ 62 ∧ ∃ I : Nat → List D → Mem → Prop, I 0 [] M' ∧ (∀ (k : Nat) acc M1, (k : Int) < n → I k acc M1 → M1.length = M'.length → LcTurn F X scope ifs elt ((ρ.set i none).set i (some (.d (.int k)))) M'.length acc M1 (fun acc' M4 => I (k + 1) acc' M4) (fun M4 => I (k + 1) acc M4)) ∧
      ∀ acc M1, I n.toNat acc M1 → M1.length = M'.length → M1.all C.fd = true ∧ N.nx (ρ.set j (some (.d (.lst acc)))) M1) : DS F X (.Assign [.Name y py] (.ListComp elt [⟨.Name x px, .Call (.Name "range" p) [e] [] p2, ifs, 0⟩] scope pos) spos) ρ M N := ⟨fun g σ H Z => of_ps (ps_setLc (i := j) (own := [(x, i)]) (g := gName i) (tt := ttA X scope ifs) (te := teA X scope elt) hc hN hy hyl hsw (pi_range1 hgl hm (pa_cons pe_s pa_nil hst) hst) ok hg
      (fun s H C cl fp => ⟨fun pins s1 σ H' Q I h => h s H C cl fp pins s1 I⟩) (fun s H C cl fp => ⟨fun pins s1 σ H' Q I h => h s H C cl fp pins s1 I⟩) hs) <|
  tS_mono (h.run g σ H Z) fun v H1 ⟨s, M', g', l, r, Z', n, es, n1, n2, I, i0, turn, done⟩ => by
    subst es
    rw [rep_int r]
    refine ⟨n, rfl, n1, n2, fun D0 hD => lc_range (lo := 0) (n := n.toNat) (LcPv X.K F g' D0 (ρ.set i none) (σ.set i none) M'.length I) (lc_start Z' hD i0) (fun k H2 hk P => ?_) (fun H2 P => ?_)⟩
    · have e0 : (0 : Int) + (k : Int) = (k : Int) := Int.zero_add _
      rw [e0]
      exact lc_step (v := .int k) (Rep.int k) Z'.ml P (fun acc M1 q hl => turn k acc M1 (by omega) q hl)
    · obtain ⟨s2, M2, g2, l2, r2, Z2, q⟩ := lc_end (Q := fun t M2 => ∃ acc, t = .d (.lst acc) ∧ N.nx (ρ.set j (some (.d (.lst acc)))) M2) Z' l P (fun acc M1 a b => ⟨(done acc M1 a b).1, acc, rfl, (done acc M1 a b).2⟩)
      obtain ⟨acc, es2, q⟩ := q
      subst es2
      exact ⟨_, M2, g2, l2, Z2.set r2, q⟩⟩
end
end DL
end

section
set_option Elab.async false
set_option linter.all false
set_option maxRecDepth 100000
set_option maxHeartbeats 400000
namespace DL
open PySem PySem.Spec PyProof.Rows L2
/-! ### dicts whose keys are ints and texts -/
abbrev TabK := List (Key × S)
def tabK (ds : List (Key × D)) : TabK := ds.map fun p => (p.1, .d p.2)
def getK (t : TabK) (k : Key) : Option S := (t.find? fun p => decide (p.1 = k)).map (·.2)
def putKs (t : TabK) (k : Key) (x : S) : TabK := if (t.any fun p => decide (p.1 = k)) = true then t.map (fun p => if p.1 = k then (p.1, x) else p) else t ++ [(k, x)]
def viewK (M : Mem) : S → Option TabK
  | .d (.dK ds) => some (tabK ds)
  | .p n => match M[n]? with
    | some (.dK t) => some t
    | _ => none
  | _ => none
theorem repK_tab {K : PySem.W.Frag} {g : Gh} : ∀ {vs : List (Key × V)} {ds : List (Key × D)}, RepK K g.G vs ds → RepSt K g vs (tabK ds)
  | _, _, .nil => .nil
  | _, _, .cons h r => .cons h (repK_tab r)
theorem tab_repK {K : PySem.W.Frag} {g : Gh} : ∀ {vs : List (Key × V)} {ds : List (Key × D)}, RepSt K g vs (tabK ds) → RepK K g.G vs ds
  | _, [], .nil => .nil
  | _, (_, _) :: _, .cons h r => .cons h (tab_repK r)
section
variable {κ : Type} [DecidableEq κ]
theorem RepSt.lenP {K : PySem.W.Frag} {g : Gh} : ∀ {vs : List (κ × V)} {t : List (κ × S)}, RepSt K g vs t → vs.length = t.length
  | _, _, .nil => rfl
  | _, _, .cons _ r => by simp [RepSt.lenP r]
theorem RepSt.valP {K : PySem.W.Frag} {g : Gh} (k : Key) : ∀ {vs : List (Key × V)} {t : TabK}, RepSt K g vs t → (valV vs k = none ∧ getK t k = none) ∨ ∃ v s, valV vs k = some v ∧ getK t k = some s ∧ RepS K g v s
  | _, _, .nil => .inl ⟨rfl, rfl⟩
  | (f, v) :: vs, (_, s) :: t, .cons h r => by
    by_cases e : f = k
    · exact .inr ⟨v, s, valV_pos e, by simp [getK, List.find?_cons, e], h⟩
    · have e1 : valV ((f, v) :: vs) k = valV vs k := valV_neg e
      have e2 : getK ((f, s) :: t) k = getK t k := by simp [getK, List.find?_cons, e]
      rw [e1, e2]
      exact r.valP k
theorem RepSt.anyP {K : PySem.W.Frag} {g : Gh} (k : κ) : ∀ {vs : List (κ × V)} {t : List (κ × S)}, RepSt K g vs t → (vs.any fun p => decide (p.1 = k)) = t.any fun p => decide (p.1 = k)
  | _, _, .nil => rfl
  | _, _, .cons _ r => by rw [List.any_cons, List.any_cons, r.anyP k]
theorem RepSt.rep1P {K : PySem.W.Frag} {g : Gh} {k : κ} {v : V} {s : S} (h : RepS K g v s) : ∀ {vs : List (κ × V)} {t : List (κ × S)}, RepSt K g vs t → RepSt K g (vs.map fun p => if p.1 = k then (p.1, v) else p) (t.map fun p => if p.1 = k then (p.1, s) else p)
  | _, _, .nil => .nil
  | (f, u) :: vs, (_, w) :: t, .cons h0 r => by
    rw [List.map_cons, List.map_cons]
    by_cases e : f = k
    · rw [if_pos e, if_pos e]; exact .cons h (r.rep1P h)
    · rw [if_neg e, if_neg e]; exact .cons h0 (r.rep1P h)
theorem RepSt.snocP {K : PySem.W.Frag} {g : Gh} {k : κ} {v : V} {s : S} (h : RepS K g v s) : ∀ {vs : List (κ × V)} {t : List (κ × S)}, RepSt K g vs t → RepSt K g (vs ++ [(k, v)]) (t ++ [(k, s)])
  | _, _, .nil => .cons h .nil
  | _, _, .cons h0 r => .cons h0 (r.snocP h)
end
theorem RepSt.putP {K : PySem.W.Frag} {g : Gh} {k : Key} {v : V} {s : S} {vs : List (Key × V)} {t : TabK} (h : RepS K g v s) (r : RepSt K g vs t) : RepSt K g (putK vs k v) (putKs t k s) := by
  unfold putK putKs
  rw [r.anyP k]
  by_cases e : (t.any fun p => decide (p.1 = k)) = true
  · rw [if_pos e, if_pos e]; exact r.rep1P h
  · rw [if_neg e, if_neg e]; exact r.snocP h
section
variable {X : Cx} {F : Fc} {ρ : Rho} {M : Mem} {Q : S → Mem → Prop} {QT : Bool → Mem → Prop} {N : DEnds} {a b c e e2 i o value : Expr} {es : List Expr} {st : Stmt} {rest : List Stmt} {pos apos cpos p tp : Pos} {x : Str} {kk : Nat}
theorem Sim.tabk {K : PySem.W.Frag} {g : Gh} {σ : L2.St} {H : Hp} (Z : Sim K F g ρ M σ H) {v : V} {s : S} {t : TabK} (r : RepS K g v s) (h : viewK M s = some t) : ∃ a vs, v = .ref a ∧ Rd H a (.dK vs) ∧ RepSt K g vs t := by
  cases s with
  | d x =>
    cases x with
    | dK ds =>
      cases h
      have r : Rep K g.G v (.dK ds) := r
      cases r with
      | dK h1 h2 => exact ⟨_, _, rfl, .inr ⟨_, Z.sub _ _ h1⟩, repK_tab h2⟩
    | _ => cases h
  | p n =>
    obtain ⟨a, rfl, ea⟩ := r
    cases e : M[n]? with
    | none => simp [viewK, e] at h
    | some c =>
      cases c with
      | dK t' =>
        simp [viewK, e] at h
        subst h
        obtain ⟨vs, h1, h2⟩ := Z.ob n _ a e ea
        exact ⟨a, vs, rfl, .inl h1, h2⟩
      | _ => simp [viewK, e] at h
/-- {} -/
theorem de_knew (q : Q (.p M.length) (M ++ [.dK []])) : DE F X (.Dict [] [] pos) ρ M Q := ⟨fun g σ H Z => of_pe pe_dnewK fun p hp => by
  obtain ⟨Z', L⟩ := Z.allocP (o := .dK []) (c := .dK []) hp ⟨[], upd_same, .nil⟩
  refine ⟨.p M.length, _, _, L, ⟨p, rfl, ?_⟩, Z', q⟩
  show (g.θ ++ [p])[M.length]? = some p
  rw [Z.ml, List.getElem?_append_right (Nat.le_refl _)]
  simp⟩
/-- y in d -/
theorem de_kin (hu : X.A.units + 1 < cLine) (h : DE F X e ρ M fun y M1 => DE F X o ρ M1 fun s M2 => ∃ k t, y = kS k ∧ viewK M2 s = some t ∧ Q (.d (.bl (getK t k).isSome)) M2) (hm : behindInMarks .In o = false) : DE F X (.Compare e [.In] [o] pos) ρ M Q := ⟨fun g σ H Z => of_pe (pe_cmp (pc_din hu pe_s pe_s) hm) <|
  tS_mono (h.run g σ H Z) fun u H1 ⟨y, M1, g1, l1, r1, Z1, q1⟩ => tS_mono (q1.run g1 σ H1 Z1) fun v H2 ⟨s, M2, g2, l2, r2, Z2, k, t, ey, ht, q⟩ => by
    subst ey
    obtain ⟨a, xs, rfl, hd, rt⟩ := Z2.tabk r2 ht
    have eq : (valV xs k).isSome = (getK t k).isSome := by
      rcases rt.valP k with ⟨e1, e2⟩ | ⟨_, _, e1, e2, _⟩ <;> rw [e1, e2] <;> rfl
    exact ⟨a, valV xs k, rfl, .inl ⟨xs, k, hd, of_kD r1, rfl⟩, .d (.bl (getK t k).isSome), M2, g2, l1.trans l2, by rw [eq]; exact rsB, Z2, q⟩⟩
theorem dt_kin (hu : X.A.units + 1 < cLine) (h : DE F X e ρ M fun y M1 => DE F X o ρ M1 fun s M2 => ∃ k t, y = kS k ∧ viewK M2 s = some t ∧ QT (getK t k).isSome M2) (hm : behindInMarks .In o = false) : DT F X (.Compare e [.In] [o] pos) ρ M QT := ⟨fun g σ H Z => of_pt (pt_cmp (pc_din hu pe_s pe_s) hm) <|
  tS_mono (h.run g σ H Z) fun u H1 ⟨y, M1, g1, l1, r1, Z1, q1⟩ => tS_mono (q1.run g1 σ H1 Z1) fun v H2 ⟨s, M2, g2, l2, r2, Z2, k, t, ey, ht, q⟩ => by
    subst ey
    obtain ⟨a, xs, rfl, hd, rt⟩ := Z2.tabk r2 ht
    have eq : (valV xs k).isSome = (getK t k).isSome := by
      rcases rt.valP k with ⟨e1, e2⟩ | ⟨_, _, e1, e2, _⟩ <;> rw [e1, e2] <;> rfl
    exact ⟨a, valV xs k, rfl, .inl ⟨xs, k, hd, of_kD r1, rfl⟩, _, rfl, M2, g2, l1.trans l2, Z2, by rw [eq]; exact q⟩⟩
theorem dt_knotin (hu : X.A.units + 1 < cLine) (h : DE F X e ρ M fun y M1 => DE F X o ρ M1 fun s M2 => ∃ k t, y = kS k ∧ viewK M2 s = some t ∧ QT (!(getK t k).isSome) M2) (hm : behindInMarks .NotIn o = false) : DT F X (.Compare e [.NotIn] [o] pos) ρ M QT := ⟨fun g σ H Z => of_pt (pt_cmp (pc_dnotin hu pe_s pe_s) hm) <|
  tS_mono (h.run g σ H Z) fun u H1 ⟨y, M1, g1, l1, r1, Z1, q1⟩ => tS_mono (q1.run g1 σ H1 Z1) fun v H2 ⟨s, M2, g2, l2, r2, Z2, k, t, ey, ht, q⟩ => by
    subst ey
    obtain ⟨a, xs, rfl, hd, rt⟩ := Z2.tabk r2 ht
    have eq : (valV xs k).isSome = (getK t k).isSome := by
      rcases rt.valP k with ⟨e1, e2⟩ | ⟨_, _, e1, e2, _⟩ <;> rw [e1, e2] <;> rfl
    exact ⟨a, valV xs k, rfl, .inl ⟨xs, k, hd, of_kD r1, rfl⟩, _, rfl, M2, g2, l1.trans l2, Z2, by rw [eq]; exact q⟩⟩
/-- d[y] -/
theorem de_kget (hu : X.A.units + 1 < cLine) (h : DE F X o ρ M fun s M1 => DE F X i ρ M1 fun z M2 => ∃ k t y, z = kS k ∧ viewK M2 s = some t ∧ getK t k = some y ∧ Q y M2) (hs : NoSl i) : DE F X (.Subscript o i pos) ρ M Q := ⟨fun g σ H Z => of_pe (pe_dget hu pe_s pe_s hs) <|
  tS_mono (h.run g σ H Z) fun v H1 ⟨s, M1, g1, l1, r1, Z1, q1⟩ => tS_mono (q1.run g1 σ H1 Z1) fun u H2 ⟨z, M2, g2, l2, r2, Z2, k, t, y, ez, ht, hy, q⟩ => by
    subst ez
    obtain ⟨a, xs, rfl, hd, rt⟩ := Z2.tabk (r1.mono l2) ht
    rcases rt.valP k with ⟨_, e2⟩ | ⟨w, z, e1, e2, rw'⟩
    · rw [e2] at hy; cases hy
    · rw [e2] at hy; cases hy
      exact ⟨a, w, rfl, .inl ⟨xs, k, hd, of_kD r2, e1.symm⟩, _, M2, _, l1.trans l2, rw', Z2, q⟩⟩
/-- d.get(y) -/
theorem de_kget1 (hu : X.A.units + 1 < cLine) (h : DE F X o ρ M fun s M1 => (∃ t, viewK M1 s = some t) ∧ DE F X e ρ M1 fun z M2 => ∃ k t, z = kS k ∧ viewK M2 s = some t ∧ Q ((getK t k).getD (.d .non)) M2) (m : M1 X o "get" apos e cpos) : DE F X (.Call (.Attribute o "get" apos) [e] [] cpos) ρ M Q := ⟨fun g σ H Z => of_pe (pe_dget1 hu pe_s pe_s m) <|
  tS_mono (h.run g σ H Z) fun v H1 ⟨s, M1, g1, l1, r1, Z1, ⟨t0, ht0⟩, q1⟩ => by
    obtain ⟨a, xs0, rfl, hd0, _⟩ := Z1.tabk r1 ht0
    refine ⟨a, rfl, .inl ⟨xs0, hd0⟩, tS_mono (q1.run g1 σ H1 Z1) fun u H2 ⟨z, M2, g2, l2, r2, Z2, k, t, ez, ht, q⟩ => ?_⟩
    subst ez
    obtain ⟨a', xs, ea, hd, rt⟩ := Z2.tabk (r1.mono l2) ht
    cases ea
    rcases rt.valP k with ⟨e1, e2⟩ | ⟨w, z, e1, e2, rw'⟩
    · rw [e2] at q
      exact ⟨none, .inl ⟨xs, k, hd, of_kD r2, e1.symm⟩, .d .non, M2, _, l1.trans l2, Rep.non, Z2, q⟩
    · rw [e2] at q
      exact ⟨some w, .inl ⟨xs, k, hd, of_kD r2, e1.symm⟩, z, M2, _, l1.trans l2, rw', Z2, q⟩⟩
/-- d.get(y, x) -/
theorem de_kget2 (hu : X.A.units + 1 < cLine) (h : DE F X o ρ M fun s M1 => (∃ t, viewK M1 s = some t) ∧ DE F X e ρ M1 fun z M2 => DE F X e2 ρ M2 fun w M3 => ∃ k t, z = kS k ∧ viewK M3 s = some t ∧ Q ((getK t k).getD w) M3) (m : M2 X o "get" apos e e2 cpos) : DE F X (.Call (.Attribute o "get" apos) [e, e2] [] cpos) ρ M Q := ⟨fun g σ H Z => of_pe (pe_dget2 hu pe_s pe_s pe_s m) <|
  tS_mono (h.run g σ H Z) fun v H1 ⟨s, M1, g1, l1, r1, Z1, ⟨t0, ht0⟩, q1⟩ => by
    obtain ⟨a, xs0, rfl, hd0, _⟩ := Z1.tabk r1 ht0
    refine ⟨a, rfl, .inl ⟨xs0, hd0⟩, tS_mono (q1.run g1 σ H1 Z1) fun u H2 ⟨z, M2, g2, l2, r2, Z2, q2⟩ => tS_mono (q2.run g2 σ H2 Z2) fun u2 H3 ⟨w, M3, g3, l3, r3, Z3, k, t, ez, ht, q⟩ => ?_⟩
    subst ez
    obtain ⟨a', xs, ea, hd, rt⟩ := Z3.tabk ((r1.mono l2).mono l3) ht
    cases ea
    rcases rt.valP k with ⟨e1, e2⟩ | ⟨w', z, e1, e2, rw'⟩
    · rw [e2] at q
      exact ⟨none, .inl ⟨xs, k, hd, of_kD r2, e1.symm⟩, w, M3, _, (l1.trans l2).trans l3, r3, Z3, q⟩
    · rw [e2] at q
      exact ⟨some w', .inl ⟨xs, k, hd, of_kD r2, e1.symm⟩, z, M3, _, (l1.trans l2).trans l3, rw', Z3, q⟩⟩
/-- d[y] = v -/
theorem ds_kput {p2 : Pos} (hu : X.A.units + 1 < cLine) (h : DE F X value ρ M fun y M1 => DE F X o ρ M1 fun s M2 => DE F X i ρ M2 fun z M3 => ∃ k n t, z = kS k ∧ s = .p n ∧ M3[n]? = some (.dK t) ∧ t.length < sizeLine ∧ N.nx ρ (M3.set n (.dK (putKs t k y))))
    (hs : swapsWith value (some (.Subscript o i p2)) pos.line X.env = pure false) : DS F X (.Assign [.Subscript o i p2] value pos) ρ M N := ⟨fun g σ H Z => of_ps (ps_dput hu pe_s pe_s pe_s hs) <|
  tS_mono (h.run g σ H Z) fun u H0 ⟨y, M0, g0, l0, r0, Z0, q0⟩ => tS_mono (q0.run g0 σ H0 Z0) fun v H1 ⟨s, M1, g1, l1, r1, Z1, q1⟩ => tS_mono (q1.run g1 σ H1 Z1) fun w H2 ⟨z, M2, g2, l2, r2, Z2, k, n, t, ez, es', em, hl, q⟩ => by
    subst es' ez
    obtain ⟨a, rfl, ea⟩ := r1.mono l2
    obtain ⟨xs, h1, h2⟩ := Z2.ob n _ a em ea
    refine ⟨a, _, rfl, .inl ⟨xs, k, h1, of_kD r2, by rw [h2.lenP]; exact hl, rfl⟩, ?_⟩
    have Z4 := Z2.write (c' := .dK (putKs t k y)) (o := .dK (putK xs k u)) em ea (by intro h; cases h) ⟨_, upd_same, h2.putP ((r0.mono l1).mono l2)⟩
    exact ⟨ρ, _, _, (l0.trans l1).trans l2, Z4, q⟩⟩
/-- a dict turned into data -/
theorem Sim.freezeK {K : PySem.W.Frag} {g : Gh} {σ : L2.St} {H : Hp} (Z : Sim K F g ρ M σ H) {n : Nat} {ds : List (Key × D)} (e : M[n]? = some (.dK (tabK ds))) (hn : F.θ0.length ≤ n) :
    ∃ a vs, g.θ[n]? = some a ∧ H a = some (.dK vs) ∧ ∀ od, ∃ G', Sim K F ⟨G', g.θ⟩ ρ (M.set n .dead) σ (upd H a (.frz od (.dK vs))) ∧ Gle g ⟨G', g.θ⟩ ∧ Rep K G' (.ref a) (.dK ds) := by
  have hl : n < g.θ.length := by rw [← Z.ml]; exact (List.getElem?_eq_some_iff.mp e).1
  refine ⟨g.θ[n], ?_⟩
  have ea : g.θ[n]? = some g.θ[n] := List.getElem?_eq_getElem hl
  generalize g.θ[n] = a at ea
  obtain ⟨vs, h1, h2⟩ := Z.ob n _ a e ea
  have ga : g.G a = none := (Z.go n _ a e ea).resolve_left (by intro h; cases h)
  obtain ⟨l, el⟩ := Z.pre
  have a0 : a ∉ F.θ0 := fun h => by
    obtain ⟨j, hj, ej⟩ := List.getElem_of_mem h
    have q : g.θ[j]? = some a := by
      rw [el, List.getElem?_append_left hj, List.getElem?_eq_getElem hj, ej]
    have := nodup_get Z.nd q ea
    omega
  have h0 : F.H0 a = none := (Z.own a (List.mem_of_getElem? ea)).resolve_left a0
  refine ⟨vs, ea, h1, fun od => ?_⟩
  have Z1 := Z.write (c' := .dead) (o := .frz od (.dK vs)) e ea (by intro h; cases h) trivial
  have hM : (M.set n .dead)[n]? = some .dead := List.getElem?_set_self (by rw [Z.ml]; exact hl)
  obtain ⟨Z2, L⟩ := Z1.bury hM ea upd_same ga h0
  exact ⟨_, Z2, L, .dK upd_same (tab_repK (h2.mono L))⟩
theorem db_freezeK {bl : List Stmt} {i n : Nat} {ds : List (Key × D)} (hs : ρ[i]? = some (some (.p n))) (e : M[n]? = some (.dK (tabK ds))) (hn : F.θ0.length ≤ n) (h : DB F X bl (ρ.set i (some (.d (.dK ds)))) (M.set n .dead) N) : DB F X bl ρ M N := ⟨fun g σ H Z => by
  obtain ⟨v, h1, a', hv, ha'⟩ := Z.sl i _ hs
  obtain ⟨a, vs, ea, hd, key⟩ := Z.freezeK e hn
  rw [ha'] at ea; cases ea
  have hσ : σ.set i (some v) = σ := by
    obtain ⟨hi, q⟩ := List.getElem?_eq_some_iff.mp h1
    exact List.ext_getElem? fun j => by
      by_cases hj : i = j
      · subst hj; rw [List.getElem?_set_self hi, h1]
      · rw [List.getElem?_set_ne hj]
  intro pins s I
  obtain ⟨od, I1⟩ := I.lock hd trivial
  obtain ⟨G', Z', L, r⟩ := key od
  have Z2 := Z'.set (i := i) (v := v) (s := .d (.dK ds)) (by rw [hv]; exact r)
  rw [hσ] at Z2
  exact sB_mono (h.run _ σ _ Z2) (EndsOf.le L) pins s I1⟩
/-- the value of an expression, a new dict, becomes data -/
theorem de_freezeK (h : DE F X e ρ M fun s M1 => ∃ n ds, s = .p n ∧ M1[n]? = some (.dK (tabK ds)) ∧ F.θ0.length ≤ n ∧ Q (.d (.dK ds)) (M1.set n .dead)) : DE F X e ρ M Q := ⟨fun g σ H Z => by
  intro pins s I
  refine thn (h.run g σ H Z pins s I) fun u s1 ⟨v, H1, I1, rv, x, M1, g1, l1, r1, Z1, n, ds, ex, em, hn, q⟩ => ?_
  subst ex
  obtain ⟨a, vs, ea, hd, key⟩ := Z1.freezeK em hn
  obtain ⟨a', rfl, ea'⟩ := r1
  rw [ea'] at ea; cases ea
  obtain ⟨od, I2⟩ := I1.lock hd trivial
  obtain ⟨G', Z', L, r⟩ := key od
  exact ⟨.ref a, _, I2, rv, .d (.dK ds), _, _, l1.trans L, r, Z', q⟩⟩
theorem repK_get {K : PySem.W.Frag} {G : Hp} : ∀ {vs : List (Key × V)} {ds : List (Key × D)} {i : Nat} {k : Key} {v : V}, RepK K G vs ds → vs[i]? = some (k, v) → ∃ d, ds[i]? = some (k, d) ∧ Rep K G v d
  | _, _, i, _, _, .nil, e => by simp at e
  | _, _, 0, _, _, .cons h _, e => by simp at e; obtain ⟨rfl, rfl⟩ := e; exact ⟨_, rfl, h⟩
  | _, _, i + 1, _, _, .cons _ r, e => by
    obtain ⟨d, h1, h2⟩ := repK_get (i := i) r (by simpa using e)
    exact ⟨d, by simpa using h1, h2⟩
theorem repK_len {K : PySem.W.Frag} {G : Hp} : ∀ {vs : List (Key × V)} {ds : List (Key × D)}, RepK K G vs ds → vs.length = ds.length
  | _, _, .nil => rfl
  | _, _, .cons _ r => by simp [repK_len r]
theorem lc_keysK {d D0 : Addr} {od : Obj} {kvs : List (Key × V)} {gg : TG} {tt : TT} {te : TE} {vs : List Nat} {σ : L2.St} {H1 : Hp} {Qd : Hp → Prop} (Pv : Nat → Hp → Prop) (h0 : Pv 0 (upd H1 D0 (.lst []))) (hl : ∀ i H, i ≤ kvs.length → Pv i H → H d = some (.frz od (.dK kvs)))
    (hs : ∀ i k v H, kvs[i]? = some (k, v) → Pv i H → gg (kV k) (wipe σ vs) H fun σ2 H2 => wipe σ2 vs = wipe σ vs ∧ tt σ2 H2 fun b H3 =>
      if b = true then te σ2 H3 fun y H4 => ∃ acc, H4 D0 = some (.lst acc) ∧ acc.length < sizeLine ∧ Pv (i + 1) (upd H4 D0 (.lst (acc ++ [y]))) else Pv (i + 1) H3) (hd : ∀ H, Pv kvs.length H → Qd H) :
    ∃ W : Nat → Nat → Hp → Prop, (∃ m, W 0 m (upd H1 D0 (.lst []))) ∧ ∀ i m H, W i m H →
      ((Itk d od kvs).stop i H ∧ Qd H) ∨ ((Itk d od kvs).go i H ∧ ∃ Nx : Hp → Prop, (∀ H', Nx H' → ∃ m', m' < m ∧ W (i + 1) m' H') ∧ ∀ x H', (Itk d od kvs).yld i H x H' → gg x (wipe σ vs) H' fun σ2 H2 => wipe σ2 vs = wipe σ vs ∧ tt σ2 H2 fun b H3 =>
        if b = true then te σ2 H3 fun y H4 => ∃ acc, H4 D0 = some (.lst acc) ∧ acc.length < sizeLine ∧ Nx (upd H4 D0 (.lst (acc ++ [y]))) else Nx H3) := by
  refine ⟨fun i m H => m = kvs.length - i ∧ i ≤ kvs.length ∧ Pv i H, ⟨kvs.length, rfl, Nat.zero_le _, h0⟩, ?_⟩
  rintro i m H ⟨rfl, hi, p⟩
  have q := hl i H hi p
  rcases Nat.lt_or_ge i kvs.length with hlt | hge
  · right
    refine ⟨⟨q, hlt⟩, Pv (i + 1), fun H' p' => ⟨kvs.length - (i + 1), by omega, rfl, hlt, p'⟩, ?_⟩
    rintro x H' ⟨rfl, k, v, h1, rfl⟩
    exact hs i k v _ h1 p
  · left
    have e : i = kvs.length := by omega
    subst e
    exact ⟨⟨q, Nat.le_refl _⟩, hd H p⟩
/-- [elt for x in d if ..], d a dict -/
theorem de_lcKK {i : Nat} {px : Pos} {elt iter : Expr} {ifs : List Expr} {scope : Scope} (hc : X.calm = true) (hN : X.N.Nodup) (ok : BlkOk X.N X.env.scope scope [(x, i)])
    (hg : ∀ (s : Shared) (H : Hp) (C : Addr) (cl : List (Str × Addr)) (fp : List Addr), PG (X.blk s H scope (compEnvC scope cl C X.env) fp) (.Name x px) (gName i)) (hs : ∀ x, foldedSetIterable iter X.env x = pure x)
    (h : DE F X iter ρ M fun s M' => ∃ ds, s = .d (.dK ds) ∧ ∃ I : Nat → List D → Mem → Prop, I 0 [] M' ∧ (∀ j k d acc M1, ds[j]? = some (k, d) → I j acc M1 → M1.length = M'.length → LcTurn F X scope ifs elt ((ρ.set i none).set i (some (kS k))) M'.length acc M1 (fun acc' M4 => I (j + 1) acc' M4) (fun M4 => I (j + 1) acc M4)) ∧
      ∀ acc M1, I ds.length acc M1 → M1.length = M'.length → M1.all C.fd = true ∧ Q (.d (.lst acc)) M1) : DE F X (.ListComp elt [⟨.Name x px, iter, ifs, 0⟩] scope pos) ρ M Q := ⟨fun g σ H Z => of_pe (pe_lc (own := [(x, i)]) (g := gName i) (tt := ttA X scope ifs) (te := teA X scope elt) hc hN (pi_keys pe_s) ok hg
      (fun s H C cl fp => ⟨fun pins s1 σ H' Q I h => h s H C cl fp pins s1 I⟩) (fun s H C cl fp => ⟨fun pins s1 σ H' Q I h => h s H C cl fp pins s1 I⟩) hs) <|
  tS_mono (h.run g σ H Z) fun v H1 ⟨s, M', g', l, r, Z', ds, es, I, i0, turn, done⟩ => by
    subst es
    have r : Rep X.K g'.G v (.dK ds) := r
    cases r with
    | @dK d od kvs _ h1 h2 =>
      refine ⟨d, od, rfl, .inl ⟨kvs, Z'.sub _ _ h1, fun D0 hD => lc_keysK (LcPv X.K F g' D0 (ρ.set i none) (σ.set i none) M'.length I) (lc_start Z' hD i0) (fun k H2 _ ⟨acc, M1, G', l', _, Z1, _⟩ => Z1.sub _ _ (l' _ _ h1)) (fun j k v H2 hk P => ?_) (fun H2 P => ?_)⟩⟩
      · obtain ⟨dd, hd, rd⟩ := repK_get h2 hk
        have rk : Rep X.K g'.G (kV k) (kD k) := rep_kD k
        exact lc_step (v := kV k) rk Z'.ml P (fun acc M1 q hl => turn j k dd acc M1 hd q hl)
      · rw [repK_len h2] at P
        exact lc_end Z' l P done⟩
/-- for x in d, d a dict as data -/
theorem for_keysK {d : Addr} {od : Obj} {kvs : List (Key × V)} {gg : TG} {tb : TS} {D : Ends} {σ : L2.St} {H : Hp} (Pv : Nat → L2.St → Hp → Prop) (h0 : Pv 0 σ H) (hl : ∀ i σ H, i ≤ kvs.length → Pv i σ H → H d = some (.frz od (.dK kvs)))
    (hs : ∀ i k v σ H, kvs[i]? = some (k, v) → Pv i σ H → gg (kV k) σ H fun σ2 H2 => tb { D with nx := Pv (i + 1), ct := Pv (i + 1), bk := D.nx } σ2 H2) (hd : ∀ σ H, Pv kvs.length σ H → D.nx σ H) :
    ∃ W : Nat → Nat → L2.St → Hp → Prop, (∃ m, W 0 m σ H) ∧ ∀ i m σ H, W i m σ H →
      ((Itk d od kvs).stop i H ∧ D.nx σ H) ∨ ((Itk d od kvs).go i H ∧ ∃ N : L2.St → Hp → Prop, (∀ σ' H', N σ' H' → ∃ m', m' < m ∧ W (i + 1) m' σ' H') ∧ ∀ x H', (Itk d od kvs).yld i H x H' → gg x σ H' fun σ2 H2 => tb { D with nx := N, ct := N, bk := D.nx } σ2 H2) := by
  refine ⟨fun i m σ H => m = kvs.length - i ∧ i ≤ kvs.length ∧ Pv i σ H, ⟨kvs.length, rfl, Nat.zero_le _, h0⟩, ?_⟩
  rintro i m σ H ⟨rfl, hi, p⟩
  have q := hl i σ H hi p
  rcases Nat.lt_or_ge i kvs.length with hlt | hge
  · right
    refine ⟨⟨q, hlt⟩, Pv (i + 1), fun σ' H' p' => ⟨kvs.length - (i + 1), by omega, rfl, hlt, p'⟩, ?_⟩
    rintro x H' ⟨rfl, k, v, h1, rfl⟩
    exact hs i k v σ _ h1 p
  · left
    have e : i = kvs.length := by omega
    subst e
    exact ⟨⟨q, Nat.le_refl _⟩, hd σ H p⟩
theorem ds_forK {tg iter : Expr} {body : List Stmt} (hp : PassesOwn (model X.prog X.w) X.A X.env X.xe) (hc : X.calm = true) (hs : ∀ x, foldedSetIterable iter X.env x = pure x)
    (h : DE F X iter ρ M fun s M' => ∃ ds, s = .d (.dK ds) ∧ ∃ I : Nat → Rho → Mem → Prop, I 0 ρ M' ∧ (∀ (i : Nat) k d ρ' M'', ds[i]? = some (k, d) → I i ρ' M'' → DG F X tg (kS k) ρ' M'' fun ρ2 M2 => DB F X body ρ2 M2 (turnEnds N (I (i + 1)))) ∧ ∀ ρ' M'', I ds.length ρ' M'' → N.nx ρ' M'') :
    DS F X (.For tg iter body [] pos) ρ M N := ⟨fun g σ H Z => of_ps (ps_for hp hc (pi_keys pe_s) pg_s pb_s hs) <|
  tS_mono (h.run g σ H Z) fun v H1 ⟨s, M', g', l, r, Z', ds, es, I, i0, turn, done⟩ => by
    subst es
    have r : Rep X.K g'.G v (.dK ds) := r
    cases r with
    | @dK d od kvs _ h1 h2 =>
      refine ⟨d, od, rfl, .inl ⟨kvs, Z'.sub _ _ h1, for_keysK (PvOf X.K F g' I) ⟨ρ, M', g', Gle.refl g', Z', i0⟩ (fun i σ2 H2 _ ⟨ρ2, M2, g2, l2, Z2, _⟩ => Z2.sub _ _ (l2.G _ _ h1)) ?_ ?_⟩⟩
      · rintro i k v σ2 H2 hi ⟨ρ2, M2, g2, l2, Z2, i2⟩
        obtain ⟨dd, hd, rd⟩ := repK_get h2 hi
        have rk : RepS X.K g2 (kV k) (kS k) := rep_kD k
        exact gS_mono ((turn i k dd ρ2 M2 hd i2).run _ σ2 _ _ Z2 rk) fun σ3 H3 ⟨ρ3, M3, g3, l4, Z4, b3⟩ => sB_mono (b3.run g3 σ3 H3 Z4) (by
          have L := l2.trans l4
          have L' := l.trans L
          exact ⟨fun _ _ ⟨ρ, M, g2, k, r⟩ => ⟨ρ, M, g2, L.trans k, r⟩, fun _ _ ⟨d, ρ, M, σ, g2, k, r⟩ => ⟨d, ρ, M, σ, g2, L'.trans k, r⟩, fun _ _ ⟨ρ, M, g2, k, r⟩ => ⟨ρ, M, g2, L'.trans k, r⟩, fun _ _ ⟨ρ, M, g2, k, r⟩ => ⟨ρ, M, g2, L.trans k, r⟩⟩)
      · rintro σ2 H2 ⟨ρ2, M2, g2, l2, Z2, i2⟩
        rw [repK_len h2] at i2
        exact ⟨ρ2, M2, g2, l.trans l2, Z2, done _ _ i2⟩⟩
end
/-! ### what a dict holds -/
theorem getK_any (t : TabK) (k : Key) : (t.any fun p => decide (p.1 = k)) = (getK t k).isSome := by
  unfold getK
  induction t with
  | nil => rfl
  | cons p t ih =>
    by_cases h : p.1 = k
    · rw [List.any_cons, List.find?_cons_of_pos (by simpa using h)]
      simp [h]
    · rw [List.any_cons, List.find?_cons_of_neg (by simpa using h), ih]
      simp [h]
theorem getK_map (t : TabK) (k : Key) (x : S) (k' : Key) : getK (t.map fun p => if p.1 = k then (p.1, x) else p) k' = if k' = k then (getK t k).map (fun _ => x) else getK t k' := by
  unfold getK
  induction t with
  | nil => split <;> rfl
  | cons p t ih =>
    rw [List.map_cons]
    by_cases e : p.1 = k
    · rw [if_pos e]
      by_cases e2 : k' = k
      · subst e2
        rw [if_pos rfl, List.find?_cons_of_pos (by simpa using e), List.find?_cons_of_pos (by simpa using e)]
        rfl
      · rw [if_neg e2] at ih ⊢
        rw [List.find?_cons_of_neg (by simpa [e] using Ne.symm e2), List.find?_cons_of_neg (by simpa [e] using Ne.symm e2)]
        exact ih
    · rw [if_neg e]
      by_cases e3 : p.1 = k'
      · rw [List.find?_cons_of_pos (by simpa using e3), if_neg (fun z => e (e3.trans z)), List.find?_cons_of_pos (by simpa using e3)]
      · rw [List.find?_cons_of_neg (by simpa using e3), ih, List.find?_cons_of_neg (by simpa using e), List.find?_cons_of_neg (by simpa using e3)]
theorem getK_put (t : TabK) (k : Key) (x : S) (k' : Key) : getK (putKs t k x) k' = if k' = k then some x else getK t k' := by
  unfold putKs
  rw [getK_any]
  by_cases h : (getK t k).isSome = true
  · rw [if_pos h, getK_map]
    obtain ⟨y, hy⟩ := Option.isSome_iff_exists.mp h
    rw [hy]
    rfl
  · rw [if_neg h]
    have h0 : getK t k = none := by
      cases e : getK t k with
      | none => rfl
      | some y => rw [e] at h; exact absurd rfl h
    unfold getK at h0 ⊢
    rw [List.find?_append]
    by_cases e : k' = k
    · subst e
      rw [if_pos rfl]
      rw [Option.map_eq_none_iff] at h0
      rw [h0]
      simp
    · rw [if_neg e, List.find?_cons_of_neg (by simpa using Ne.symm e), List.find?_nil, Option.or_none]
def putD (ds : List (Key × D)) (k : Key) (x : D) : List (Key × D) := if (ds.any fun p => decide (p.1 = k)) = true then ds.map (fun p => if p.1 = k then (p.1, x) else p) else ds ++ [(k, x)]
theorem putKs_tab (ds : List (Key × D)) (k : Key) (x : D) : putKs (tabK ds) k (.d x) = tabK (putD ds k x) := by
  unfold putKs putD tabK
  rw [List.any_map]
  by_cases h : (ds.any fun p => decide (p.1 = k)) = true
  · rw [if_pos (by simpa using h), if_pos h, List.map_map, List.map_map]
    refine List.map_congr_left fun p _ => ?_
    by_cases e : p.1 = k <;> simp [e]
  · rw [if_neg (by simpa using h), if_neg h, List.map_append]
    rfl
theorem putD_len (ds : List (Key × D)) (k : Key) (x : D) : (putD ds k x).length ≤ ds.length + 1 := by
  unfold putD
  split
  · rw [List.length_map]; omega
  · rw [List.length_append]; simp
theorem putD_mem {ds : List (Key × D)} {k : Key} {x : D} {p : Key × D} (h : p ∈ putD ds k x) : p.1 = k ∨ p ∈ ds := by
  unfold putD at h
  split at h
  · obtain ⟨q, hq, rfl⟩ := List.mem_map.mp h
    by_cases e : q.1 = k
    · rw [if_pos e]; exact .inl e
    · rw [if_neg e]; exact .inr hq
  · rcases List.mem_append.mp h with h | h
    · exact .inr h
    · simp at h; subst h; exact .inl rfl
theorem getK_mem {ds : List (Key × D)} {p : Key × D} (h : p ∈ ds) : (getK (tabK ds) p.1).isSome = true := by
  rw [← getK_any, List.any_eq_true]
  exact ⟨(p.1, .d p.2), List.mem_map.mpr ⟨p, h, rfl⟩, by simp⟩
theorem mem_getK {ds : List (Key × D)} {k : Key} {x : S} (h : getK (tabK ds) k = some x) : ∃ d, (k, d) ∈ ds ∧ x = .d d := by
  unfold getK tabK at h
  obtain ⟨p, hp, rfl⟩ := Option.map_eq_some_iff.mp h
  have h1 := List.find?_some hp
  have h1 : p.1 = k := by simpa using h1
  obtain ⟨q, hq, rfl⟩ := List.mem_map.mp (List.mem_of_find?_eq_some hp)
  have h1 : q.1 = k := h1
  subst h1
  exact ⟨q.2, hq, rfl⟩
end DL
end

section
set_option Elab.async false
set_option linter.all false
set_option maxRecDepth 100000
set_option maxHeartbeats 400000
namespace DL
open PySem PySem.Spec PyProof.Rows L2
/-! ### min over data -/
section
variable {prog : Program} {w : World} {A : Around} {E : Value → Shared → Prop} {s : Shared}
theorem min_listI {l : Addr} {vs : Array Value} {x : PyData} {xs : List PyData} {as : List Addr} {Q : Value → Shared → Prop} (hh : A.handled = none) (hl : s.heap.IsList l vs) (hr : ReadsAll s.heap vs.toList (x :: xs) as) (ha : PySem.W.AlikeAll (x :: xs)) (hu : A.units + 1 + PyData.depthAll (x :: xs) < cLine)
    (h : ∀ (i : Nat) v h' tk, vs[i]? = some v → (x :: xs).getD i .none = PySem.W.minD x xs → (∀ b o, s.heap.get? b = some o → h'.get? b = some o) → Q v { s with heap := h', toks := tk }) :
    wpAny (model prog w) A (call (.builtin "min") [.ref l]) Q E s := by
  have hn : vs.size = xs.length + 1 := PySem.W.readsAll_len hr
  refine call_min_walkH (PySem.W.iter_listW (A := A.in1) hh hl fun s₂ e W st hfp hw hk => ?_)
  refine ⟨_, _, _, _, _, _, _, s.heap, _, rfl, W, st, hfp, by omega, hw, hk, PySem.W.cmpIn_lt (A := A.in1) hr ha (by show A.units + 1 + _ < _; exact hu), fun v s' hP m => ?_⟩
  obtain ⟨h', tk, rfl, hk'⟩ := PySem.W.moved_old e rfl m
  have e1 : vs.size - 1 = xs.length := by omega
  have e2 := (PySem.W.argBest_fold PySem.W.dataLt PyData.none x xs xs.length (Nat.le_refl _)).2
  rw [List.take_length] at e2
  rw [e1] at hP
  exact h _ v h' tk hP e2 hk'
theorem call_min_twoH {a b : Value} {Q : Value → Shared → Prop}
    (h : wpAny (model prog w) A.in1 (pyIter (.ref s.heap.objs.size)) (fun it s₂ => ∃ I fp wr G n P St H bt, it = .ref I ∧ WalksS prog w A.in1 I fp wr G n P St ∧ St 0 s₂ ∧ (∀ b ∈ fp, b < s₂.heap.objs.size) ∧ 0 < n ∧
      (∀ b o, H.get? b = some o → b ∉ wr) ∧ (∀ b o, H.get? b = some o → s₂.heap.get? b = some o) ∧ CmpIn prog w A.in1 .Lt H P bt ∧ ∀ v s', P (argBest bt (n - 1)) v → Moved wr G s₂ s' → Q v s') E
      { s with heap := s.heap.push { cls := .type "tuple", data := .seq #[a, b] } }) :
    wpAny (model prog w) A (call (.builtin "min") [a, b]) Q E s := by
  have hname : (toString "min" ++ toString ".loop" : String) = "min.loop" := by decide
  refine call_function_tree F.kind_min F.plain_min F.entry_min (F.args_min2 _ _) ?_
  show wpAny _ A.in1 (Builtin.Builtins.bindParams "min" ["key", "default"] 0 ⟨[], []⟩ >>= _) _ _ s
  refine wpAny_bind (wpAny_of_eq (show Builtin.Builtins.bindParams "min" ["key", "default"] 0 ⟨[], []⟩ = pure [none, none] from rfl) ?_)
  show wpAny _ A.in1 (newTuple [a, b] >>= _) _ _ s
  refine wpAny_bind (wpAny_newObj_type ?_)
  refine wpAny_bind (wpAny_mono h (fun it s₂ h₂ => ?_) fun _ _ e => e)
  obtain ⟨I, fp, wr, G, n, P, St, H, bt, rfl, W, hst, hfp, hn, hw, hkeep, hcmp, hQ⟩ := h₂
  refine wpAny_bind (wpAny_newObj_type ?_)
  have hSf : s₂.heap.objs.size ∉ fp := fun hm => Nat.lt_irrefl _ (hfp _ hm)
  rw [hname]
  refine wpAny_pure ⟨plainId_quiet F.plain_min_loop _, codeAny_min_loop_firstH W H hw bt hcmp s₂.heap.objs.size hSf (fresh_in hkeep) _ hn (fun b o e => Heap.get?_push_of_some _ (hkeep b o e)) (W.frame 0 s₂ _ s₂.toks hst (Nat.le_refl _) fun b _ o e => Heap.get?_push_of_some _ e) (Heap.get?_push_size _ rfl) fun v s' hP hm => ?_⟩
  exact hQ v s' hP (Moved.drop_new (tk := s₂.toks) hm (Nat.le_refl _))
theorem min_twoI {a b : Value} {x y : PyData} {as : List Addr} {Q : Value → Shared → Prop} (hh : A.handled = none) (hr : ReadsAll s.heap [a, b] [x, y] as) (ha : PySem.W.AlikeAll [x, y]) (hu : A.units + 1 + PyData.depthAll [x, y] < cLine)
    (h : ∀ h' tk, (∀ b o, s.heap.get? b = some o → h'.get? b = some o) → Q (if PySem.W.dataLt y x = true then b else a) { s with heap := h', toks := tk }) :
    wpAny (model prog w) A (call (.builtin "min") [a, b]) Q E s := by
  refine call_min_twoH ?_
  have hk0 : ∀ c o, s.heap.get? c = some o → (s.heap.push { cls := .type "tuple", data := .seq #[a, b] }).get? c = some o := fun c o e => Heap.get?_push_of_some _ e
  have hT : (s.heap.push { cls := .type "tuple", data := .seq #[a, b] }).IsTuple s.heap.objs.size #[a, b] := ⟨_, Heap.get?_push_size _ rfl, rfl, 0, rfl⟩
  have hr2 : ReadsAll (s.heap.push { cls := .type "tuple", data := .seq #[a, b] }) (#[a, b] : Array Value).toList [x, y] as := ReadsAll.keeps hk0 hr
  refine PySem.W.iter_tupleW (A := A.in1) hh hT fun s₂ e W st hfp hw hk => ?_
  refine ⟨_, _, _, _, _, _, _, _, _, rfl, W, st, hfp, by simp, hw, hk, PySem.W.cmpIn_lt (A := A.in1) (s := { s with heap := s.heap.push { cls := .type "tuple", data := .seq #[a, b] } }) hr2 ha (by show A.units + 1 + _ < _; exact hu), fun v s' hP m => ?_⟩
  obtain ⟨h', tk, rfl, hk'⟩ := PySem.W.moved_old e rfl m
  have hv : v = if PySem.W.dataLt y x = true then b else a := by
    have hs : (#[a, b] : Array Value).size - 1 = 1 := rfl
    rw [hs] at hP
    by_cases hb : PySem.W.dataLt y x = true
    · have e1 : argBest (fun i j => PySem.W.dataLt ([x, y].getD i .none) ([x, y].getD j .none)) 1 = 1 := if_pos hb
      rw [e1] at hP
      rw [if_pos hb]
      exact (Option.some.inj hP).symm
    · have e1 : argBest (fun i j => PySem.W.dataLt ([x, y].getD i .none) ([x, y].getD j .none)) 1 = 0 := if_neg hb
      rw [e1] at hP
      rw [if_neg hb]
      exact (Option.some.inj hP).symm
  rw [hv]
  exact h h' tk fun c o e => hk' c o (hk0 c o e)
end
section
variable {X : Cx} {F : Fc} {ρ : Rho} {M : Mem} {Q : S → Mem → Prop}
def rMinDL (K : PySem.W.Frag) (u : Nat) : List V → Hp → VK → Prop := fun vs H Q => ∃ a xs G d ds, vs = [.ref a] ∧ SqL K H a xs ∧ Le G H ∧ RepL K G xs (d :: ds) ∧ okDs (d :: ds) = true ∧ PySem.W.AlikeAll (pyDs (d :: ds)) ∧ u + 1 + PyData.depthAll (pyDs (d :: ds)) < cLine ∧
  ∀ (i : Nat) (v : V) (e : D), xs[i]? = some v → (d :: ds)[i]? = some e → pyD e = PySem.W.minD (pyD d) (pyDs ds) → Q v H
theorem cr_minDL (hc : X.calm = true) : CallR X (.builtin "min") (rMinDL X.K X.A.units) := by
  intro pins s σ H vs us Q I r h
  obtain ⟨a, xs, G, d, ds, rfl, hs, l, rp, ok, al, hu, q⟩ := h
  rw [Vals.ref1 r]
  obtain ⟨its, rv, pl, hz⟩ := I.list hs
  obtain ⟨as, hr, _⟩ := repL_reads I l ok rp rv
  refine min_listI (I.ok.hd hc) pl.isList (x := pyD d) (xs := pyDs ds) (by simpa [pyDs] using hr) (by simpa [pyDs] using al) (by simpa [pyDs] using hu) fun i v h' tk hv hm k => ?_
  have hv2 : its[i]? = some v := by simpa using hv
  have hi : i < its.length := (List.getElem?_eq_some_iff.mp hv2).1
  have hl := rv.length
  have hl2 := rp.length
  have hx : xs[i]? = some (xs[i]'(by omega)) := List.getElem?_eq_getElem _
  have hd : (d :: ds)[i]? = some ((d :: ds)[i]'(by omega)) := List.getElem?_eq_getElem _
  obtain ⟨w', hw, rw'⟩ := rv.get hx
  have e : v = w' := Option.some.inj (hv2.symm.trans hw)
  subst e
  refine ⟨_, H, I.kept k, rw', q i _ _ hx hd ?_⟩
  rw [← hm]
  have e2 : (pyD d :: pyDs ds) = pyDs (d :: ds) := rfl
  rw [e2, pyDs_map, List.getD_eq_getElem?_getD, List.getElem?_map, hd]
  rfl
theorem cd_minL {s : S} {d : D} {ds : List D} (hc : X.calm = true) (hv : view M s = some (.lst (d :: ds))) (ok : okDs (d :: ds) = true) (al : PySem.W.AlikeAll (pyDs (d :: ds))) (hu : X.A.units + 1 + PyData.depthAll (pyDs (d :: ds)) < cLine)
    (q : ∀ (i : Nat) (e : D), (d :: ds)[i]? = some e → pyD e = PySem.W.minD (pyD d) (pyDs ds) → Q (.d e) M) : CD F X (.builtin "min") [s] ρ M Q := cd_of (cr_minDL hc) fun g σ H us Z ru => by
  obtain ⟨v, rfl, rv⟩ := ss1 ru
  obtain ⟨a, xs, rfl, h1, h2⟩ := Z.lst rv hv
  refine ⟨a, xs, g.G, d, ds, rfl, h1, Z.sub, h2, ok, al, hu, fun i v e hx he hm => ?_⟩
  obtain ⟨u, h3, h4⟩ := h2.get he
  rw [hx] at h3
  cases h3
  exact post_at Z (s := .d e) h4 (q i e he hm)
def rMinD2 (K : PySem.W.Frag) (u : Nat) : List V → Hp → VK → Prop := fun vs H Q => ∃ x y G d e, vs = [x, y] ∧ Le G H ∧ Rep K G x d ∧ Rep K G y e ∧ okD d = true ∧ okD e = true ∧ PySem.W.AlikeAll [pyD d, pyD e] ∧ u + 1 + PyData.depthAll [pyD d, pyD e] < cLine ∧
  Q (if PySem.W.dataLt (pyD e) (pyD d) = true then y else x) H
theorem cr_minD2 (hc : X.calm = true) : CallR X (.builtin "min") (rMinD2 X.K X.A.units) := by
  intro pins s σ H vs us Q I r h
  obtain ⟨x, y, G, d, e, rfl, l, r1, r2, o1, o2, al, hu, q⟩ := h
  obtain ⟨u1, u2, rfl, q1, q2⟩ := vals2 r
  obtain ⟨as, hr, _⟩ := repL_reads (ds := [d, e]) I l (by simp [okDs, o1, o2]) (.cons r1 (.cons r2 .nil)) (.cons q1 (.cons q2 .nil))
  refine min_twoI (I.ok.hd hc) (x := pyD d) (y := pyD e) (by simpa [pyDs] using hr) al hu fun h' tk k => ⟨_, H, I.kept k, ?_, q⟩
  by_cases hb : PySem.W.dataLt (pyD e) (pyD d) = true
  · rw [if_pos hb, if_pos hb]; exact q2
  · rw [if_neg hb, if_neg hb]; exact q1
theorem cd_minD2 {d e : D} (hc : X.calm = true) (o1 : okD d = true) (o2 : okD e = true) (al : PySem.W.AlikeAll [pyD d, pyD e]) (hu : X.A.units + 1 + PyData.depthAll [pyD d, pyD e] < cLine) (q : Q (.d (if PySem.W.dataLt (pyD e) (pyD d) = true then e else d)) M) : CD F X (.builtin "min") [.d d, .d e] ρ M Q := cd_of (cr_minD2 hc) fun g σ H us Z ru => by
  obtain ⟨v, w, rfl, rv, rw'⟩ := ss2 ru
  refine ⟨v, w, g.G, d, e, rfl, Z.sub, rv, rw', o1, o2, al, hu, post_at Z ?_ q⟩
  by_cases hb : PySem.W.dataLt (pyD e) (pyD d) = true
  · rw [if_pos hb, if_pos hb]; exact rw'
  · rw [if_neg hb, if_neg hb]; exact rv
/-- {k: v} -/
theorem de_kdisp1 {k v : Expr} {pos : Pos} (h : DE F X k ρ (M ++ [.dK []]) fun y M1 => DE F X v ρ M1 fun z M2 => ∃ kk, y = kS kk ∧ M2[M.length]? = some (.dK []) ∧ Q (.p M.length) (M2.set M.length (.dK [(kk, z)]))) : DE F X (.Dict [some k] [v] pos) ρ M Q := ⟨fun g σ H Z => of_pe (pe_disp (pps_cons pe_s pe_s pps_nil) rfl rfl (by simp) (show (1 : Nat) ≤ 15 by decide)) <| by
  intro p hp
  obtain ⟨Z1, L1⟩ := Z.allocP (o := .dK []) (c := .dK []) hp ⟨[], upd_same, .nil⟩
  have ea0 : (g.θ ++ [p])[M.length]? = some p := by
    rw [Z.ml, List.getElem?_append_right (Nat.le_refl _)]
    simp
  refine tS_mono (h.run _ σ _ Z1) fun x H1 ⟨y, M1, g1, l1, r1, Z2, q1⟩ => tS_mono (q1.run g1 σ H1 Z2) fun u H2 ⟨z, M2, g2, l2, r2, Z3, kk, ey, em, q⟩ => ?_
  subst ey
  have ea : g2.θ[M.length]? = some p := (l1.trans l2).get ea0
  obtain ⟨kvs, h1, h2⟩ := Z3.ob _ _ p em ea
  cases h2
  refine ⟨h1, [(kk, u)], by rw [of_kD r1]; rfl, show (1 : Nat) ≤ 15 by decide, .p M.length, _, g2, L1.trans (l1.trans l2), ⟨p, rfl, ea⟩, ?_, q⟩
  exact Z3.write (c' := .dK [(kk, z)]) em ea (by intro h; cases h) ⟨[(kk, u)], upd_same, .cons r2 .nil⟩⟩
/-- y = [elt for x in d if ..], d a dict, a statement of its own -/
theorem ds_setLcKK {i j : Nat} {x y : Str} {px py : Pos} {elt iter : Expr} {ifs : List Expr} {scope : Scope} {pos spos : Pos} {N : DEnds} (hc : X.calm = true) (hN : X.N.Nodup) (hy : X.N[j]? = some y) (hyl : X.env.scope.names.lookup y = some .local)
    (hsw : swapsWith (.ListComp elt [⟨.Name x px, iter, ifs, 0⟩] scope pos) (some (.Name y py)) spos.line X.env = pure true) (ok : BlkOk X.N X.env.scope scope [(x, i)])
    (hg : ∀ (s : Shared) (H : Hp) (C : Addr) (cl : List (Str × Addr)) (fp : List Addr), PG (X.blk s H scope (compEnvC scope cl C X.env) fp) (.Name x px) (gName i)) (hs : ∀ x, foldedSetIterable iter X.env x = pure x)
    (h : DE F X iter ρ M fun s M' => ∃ ds, s = .d (.dK ds) ∧ ∃ I : Nat → List D → Mem → Prop, I 0 [] M' ∧ (∀ j k d acc M1, ds[j]? = some (k, d) → I j acc M1 → M1.length = M'.length → LcTurn F X scope ifs elt ((ρ.set i none).set i (some (kS k))) M'.length acc M1 (fun acc' M4 => I (j + 1) acc' M4) (fun M4 => I (j + 1) acc M4)) ∧
      ∀ acc M1, I ds.length acc M1 → M1.length = M'.length → M1.all C.fd = true ∧ N.nx (ρ.set j (some (.d (.lst acc)))) M1) : DS F X (.Assign [.Name y py] (.ListComp elt [⟨.Name x px, iter, ifs, 0⟩] scope pos) spos) ρ M N := ⟨fun g σ H Z => of_ps (ps_setLc (i := j) (own := [(x, i)]) (g := gName i) (tt := ttA X scope ifs) (te := teA X scope elt) hc hN hy hyl hsw (pi_keys pe_s) ok hg
      (fun s H C cl fp => ⟨fun pins s1 σ H' Q I h => h s H C cl fp pins s1 I⟩) (fun s H C cl fp => ⟨fun pins s1 σ H' Q I h => h s H C cl fp pins s1 I⟩) hs) <|
  tS_mono (h.run g σ H Z) fun v H1 ⟨s, M', g', l, r, Z', ds, es, I, i0, turn, done⟩ => by
    subst es
    have r : Rep X.K g'.G v (.dK ds) := r
    cases r with
    | @dK d od kvs _ h1 h2 =>
      refine ⟨d, od, rfl, .inl ⟨kvs, Z'.sub _ _ h1, fun D0 hD => lc_keysK (LcPv X.K F g' D0 (ρ.set i none) (σ.set i none) M'.length I) (lc_start Z' hD i0) (fun k H2 _ ⟨acc, M1, G', l', _, Z1, _⟩ => Z1.sub _ _ (l' _ _ h1)) (fun j k v H2 hk P => ?_) (fun H2 P => ?_)⟩⟩
      · obtain ⟨dd, hd, rd⟩ := repK_get h2 hk
        have rk : Rep X.K g'.G (kV k) (kD k) := rep_kD k
        exact lc_step (v := kV k) rk Z'.ml P (fun acc M1 q hl => turn j k dd acc M1 hd q hl)
      · rw [repK_len h2] at P
        obtain ⟨s2, M2, g2, l2, r2, Z2, q⟩ := lc_end (Q := fun t M2 => ∃ acc, t = .d (.lst acc) ∧ N.nx (ρ.set j (some (.d (.lst acc)))) M2) Z' l P (fun acc M1 a b => ⟨(done acc M1 a b).1, acc, rfl, (done acc M1 a b).2⟩)
        obtain ⟨acc, es2, q⟩ := q
        subst es2
        exact ⟨_, M2, g2, l2, Z2.set r2, q⟩⟩
/-! repr of None, of ints, of texts -/
theorem call_repr_no : CallR X (.builtin "repr") (fun xs H Q => xs = [.non] ∧ Q (.str "None") H) := by
  intro pins s σ H xs us Q I r h
  obtain ⟨rfl, q⟩ := h
  obtain ⟨u, rfl, ru⟩ := vals1 r
  cases (show u = Value.none from ru)
  exact PySem.P.repr_of_none ⟨.str "None", H, I.tok _, ⟨_, rfl⟩, q⟩
theorem cd_reprN (q : Q (.d (.str "None")) M) : CD F X (.builtin "repr") [.d .non] ρ M Q := cd_of call_repr_no fun g σ H us Z ru => by
  obtain ⟨v, rfl, rv⟩ := ss1 ru
  rw [rep_non rv]
  exact ⟨rfl, post_at Z rsS q⟩
theorem call_repr_in : CallR X (.builtin "repr") (fun xs H Q => ∃ i, xs = [.int i] ∧ i.natAbs.log2 < 1920 ∧ Q (.str (Str.ofString (toString i))) H) := by
  intro pins s σ H xs us Q I r h
  obtain ⟨i, rfl, hl, q⟩ := h
  obtain ⟨u, rfl, t, rfl⟩ := vals1 r
  exact PySem.P.repr_of_int hl ⟨.str _, H, I.tok _, ⟨_, rfl⟩, q⟩
theorem cd_reprI {i : Int} (hl : i.natAbs.log2 < 1920) (q : Q (.d (.str (Str.ofString (toString i)))) M) : CD F X (.builtin "repr") [.d (.int i)] ρ M Q := cd_of call_repr_in fun g σ H us Z ru => by
  obtain ⟨v, rfl, rv⟩ := ss1 ru
  rw [rep_int rv]
  exact ⟨i, rfl, hl, post_at Z rsS q⟩
end
end DL
end

section
set_option Elab.async false
set_option linter.all false
set_option maxRecDepth 100000
set_option maxHeartbeats 2000000
open PySem PySem.Spec PyProof.Rows L2 DL

local macro_rules | `(tactic| walk_at "vis") => `(tactic| first | exact Or.inl rfl | exact Or.inr (Or.inl rfl) | exact Or.inr (Or.inr rfl))
local macro_rules | `(tactic| walk_at "loc") => `(tactic| first | exact Or.inl rfl | exact Or.inr rfl)
local macro_rules | `(tactic| walk_at "side") => `(tactic| first | assumption | omega | decide)
local macro_rules | `(tactic| walk_at "callB") => `(tactic| first
  | ((with_reducible show DE _ _ (Expr.Call (Expr.Name (Str.ofString "len") _) _ _ _) _ _ _); refine de_callB (id := "len") rfl (by assumption) (by decide +kernel) (by decide) (by decide) rfl rfl ?_)
  | ((with_reducible show DE _ _ (Expr.Call (Expr.Name (Str.ofString "max") _) _ _ _) _ _ _); refine de_callB (id := "max") rfl (by assumption) (by decide +kernel) (by decide) (by decide) rfl rfl ?_)
  | ((with_reducible show DE _ _ (Expr.Call (Expr.Name (Str.ofString "min") _) _ _ _) _ _ _); refine de_callB (id := "min") rfl (by assumption) (by decide +kernel) (by decide) (by decide) rfl rfl ?_)
  | ((with_reducible show DE _ _ (Expr.Call (Expr.Name (Str.ofString "abs") _) _ _ _) _ _ _); refine de_callB (id := "abs") rfl (by assumption) (by decide +kernel) (by decide) (by decide) rfl rfl ?_)
  | ((with_reducible show DE _ _ (Expr.Call (Expr.Name (Str.ofString "repr") _) _ _ _) _ _ _); refine de_callB (id := "repr") rfl (by assumption) (by decide +kernel) (by decide) (by decide) rfl rfl ?_)
  | ((with_reducible show DE _ _ (Expr.Call (Expr.Name (Str.ofString "isinstance") _) _ _ _) _ _ _); refine de_callB (id := "isinstance") rfl (by assumption) (by decide +kernel) (by decide) (by decide) rfl rfl ?_)
  | ((with_reducible show DE _ _ (Expr.Call (Expr.Name (Str.ofString "sorted") _) _ _ _) _ _ _); refine de_callB (id := "sorted") rfl (by assumption) (by decide +kernel) (by decide) (by decide) rfl rfl ?_)
  | ((with_reducible show DE _ _ (Expr.Call (Expr.Name (Str.ofString "all") _) _ _ _) _ _ _); refine de_callB (id := "all") rfl (by assumption) (by decide +kernel) (by decide) (by decide) rfl rfl ?_)
  | ((with_reducible show DE _ _ (Expr.Call (Expr.Name (Str.ofString "any") _) _ _ _) _ _ _); refine de_callB (id := "any") rfl (by assumption) (by decide +kernel) (by decide) (by decide) rfl rfl ?_)
  | ((with_reducible show DE _ _ (Expr.Call (Expr.Name (Str.ofString "sum") _) _ _ _) _ _ _); refine de_callB (id := "sum") rfl (by assumption) (by decide +kernel) (by decide) (by decide) rfl rfl ?_)
  | ((with_reducible show DE _ _ (Expr.Call (Expr.Name (Str.ofString "int") _) _ _ _) _ _ _); refine de_callTy (T := "int") rfl (by assumption) (by decide +kernel) (by decide) (by decide) rfl rfl ?_)
  | ((with_reducible show DE _ _ (Expr.Call (Expr.Name (Str.ofString "tuple") _) _ _ _) _ _ _); refine de_callTy (T := "tuple") rfl (by assumption) (by decide +kernel) (by decide) (by decide) rfl rfl ?_)
  | ((with_reducible show DE _ _ (Expr.Call (Expr.Name (Str.ofString "list") _) _ _ _) _ _ _); refine de_callTy (T := "list") rfl (by assumption) (by decide +kernel) (by decide) (by decide) rfl rfl ?_)
  | ((with_reducible show DE _ _ (Expr.Call (Expr.Name (Str.ofString "set") _) _ _ _) _ _ _); refine de_callTy (T := "set") rfl (by assumption) (by decide +kernel) (by decide) (by decide) rfl rfl ?_)
  | ((with_reducible show DE _ _ (Expr.Call (Expr.Name (Str.ofString "str") _) _ _ _) _ _ _); refine de_callTy (T := "str") rfl (by assumption) (by decide +kernel) (by decide) (by decide) rfl rfl ?_))
local macro_rules | `(tactic| walk_at "own") => `(tactic| refine de_own (by assumption) (by assumption) (by assumption) (by decide) rfl (by decide) rfl rfl ?_)
local macro_rules | `(tactic| walk_at "bname") => `(tactic| first
  | ((with_reducible show DE _ _ (Expr.Name (Str.ofString "LETTERS") _) _ _ _); refine de_glob (v := .str abc) rfl (by assumption) ⟨_, rfl⟩ (fun _ => .str _) ?_ (by decide))
  | ((with_reducible show DE _ _ (Expr.Name (Str.ofString "LONGEST_WORD") _) _ _ _); refine de_glob (v := .int 8) rfl (by assumption) ⟨_, rfl⟩ (fun _ => .int _) ?_ (by decide))
  | ((with_reducible show DE _ _ (Expr.Name (Str.ofString "MOST_STATES") _) _ _ _); refine de_glob (v := .int 5) rfl (by assumption) ⟨_, rfl⟩ (fun _ => .int _) ?_ (by decide))
  | ((with_reducible show DE _ _ (Expr.Name (Str.ofString "MOST_ARROWS") _) _ _ _); refine de_glob (v := .int 40) rfl (by assumption) ⟨_, rfl⟩ (fun _ => .int _) ?_ (by decide))
  | ((with_reducible show DE _ _ (Expr.Name (Str.ofString "int") _) _ _ _); refine de_bltn (v := .ty "int") rfl (by assumption) (by decide +kernel) rfl ?_ (by decide) (by decide))
  | ((with_reducible show DE _ _ (Expr.Name (Str.ofString "bool") _) _ _ _); refine de_bltn (v := .ty "bool") rfl (by assumption) (by decide +kernel) rfl ?_ (by decide) (by decide))
  | ((with_reducible show DE _ _ (Expr.Name (Str.ofString "str") _) _ _ _); refine de_bltn (v := .ty "str") rfl (by assumption) (by decide +kernel) rfl ?_ (by decide) (by decide))
  | ((with_reducible show DE _ _ (Expr.Name (Str.ofString "tuple") _) _ _ _); refine de_bltn (v := .ty "tuple") rfl (by assumption) (by decide +kernel) rfl ?_ (by decide) (by decide))
  | ((with_reducible show DE _ _ (Expr.Name (Str.ofString "list") _) _ _ _); refine de_bltn (v := .ty "list") rfl (by assumption) (by decide +kernel) rfl ?_ (by decide) (by decide)))
local macro_rules | `(tactic| walk_at "E") => `(tactic| ((with_reducible show DE _ _ _ _ _ _); first
  | ((with_reducible show DE _ _ (Expr.Name _ _) _ _ _); first | walk_at "name" | walk_at "bname")
  | refine de_int ?_ | refine de_str ?_ | refine de_bl ?_ | refine de_non ?_
  | refine de_ix ?_ (fun _ _ => rfl)
  | refine de_bin ?_ | refine de_cmp ?_ (by first | exact nomark _ | rfl) | refine de_chain ?_ rfl
  | refine de_revS ?_ | refine de_slice ?_
  | refine de_one ?_ | refine de_and ?_ | refine de_or ?_ | refine de_not ?_ | refine de_if ?_
  | refine de_tup ?_ | refine de_lstP (es := []) ?_ | refine de_lst ?_
  | ((with_reducible show DE _ _ (Expr.Call (Expr.Name _ _) _ _ _) _ _ _); first | walk_at "callB" | walk_at "own")
  | ((with_reducible show DE _ _ (Expr.Call (Expr.Attribute _ (Str.ofString "append") _) _ _ _) _ _ _); refine de_append ?_ rfl rfl rfl rfl rfl)
  | ((with_reducible show DE _ _ (Expr.Call (Expr.Attribute _ (Str.ofString "insert") _) _ _ _) _ _ _); refine de_insert ?_ rfl rfl rfl rfl rfl rfl)))
local macro_rules | `(tactic| walk_at "T") => `(tactic| ((with_reducible show DT _ _ _ _ _ _); first
  | refine dt_cmp ?_ (by first | exact nomark _ | rfl) | refine dt_chain ?_ rfl | refine dt_not ?_ | refine dt_w (dw_and ?_) | refine dt_w (dw_or ?_) | refine dt_val ?_ (fun _ => rfl)))
local macro_rules | `(tactic| walk_at "W") => `(tactic| ((with_reducible show DW _ _ _ _ _ _); first
  | refine dw_and ?_ | refine dw_or ?_ | refine dw_and1 ?_ | refine dw_or1 ?_))
local macro_rules | `(tactic| walk_at "A") => `(tactic| ((with_reducible show DA _ _ _ _ _ _); first | refine da_nil ?_ | refine da_cons ?_ rfl))
local macro_rules | `(tactic| walk_at "O") => `(tactic| ((with_reducible show BD _ _ _ _ _ _ _ _); first
  | ((with_reducible show BD _ _ (binaryOp Operator.Add) (S.d (D.int _)) (S.d (D.int _)) _ _ _); refine bd_add ?_)
  | ((with_reducible show BD _ _ (binaryOp Operator.Add) (S.d (D.str _)) (S.d (D.str _)) _ _ _); refine bd_addS ?_ ?_)
  | ((with_reducible show BD _ _ (binaryOp Operator.Sub) (S.d (D.int _)) (S.d (D.int _)) _ _ _); refine bd_sub ?_)
  | ((with_reducible show BD _ _ (binaryOp Operator.Mod) (S.d (D.int _)) (S.d (D.int _)) _ _ _); refine bd_mod (by walk_at "side") ?_)
  | ((with_reducible show BD _ _ (binaryOp Operator.Mult) (S.d (D.int _)) (S.d (D.int _)) _ _ _); refine bd_mul ?_ ?_)
  | ((with_reducible show BD _ _ (binaryOp Operator.FloorDiv) (S.d (D.int _)) (S.d (D.int _)) _ _ _); refine bd_fdivW ?_ ?_)
  | ((with_reducible show BD _ _ (binaryOp Operator.Pow) (S.d (D.int _)) (S.d (D.int _)) _ _ _); refine bd_pow ?_ ?_)
  | ((with_reducible show BD _ _ (compareOp CmpOp.Lt) (S.d (D.int _)) (S.d (D.int _)) _ _ _); refine bd_lt ?_)
  | ((with_reducible show BD _ _ (compareOp CmpOp.LtE) (S.d (D.int _)) (S.d (D.int _)) _ _ _); refine bd_le ?_)
  | ((with_reducible show BD _ _ (compareOp CmpOp.Gt) (S.d (D.int _)) (S.d (D.int _)) _ _ _); refine bd_gt ?_)
  | ((with_reducible show BD _ _ (compareOp CmpOp.GtE) (S.d (D.int _)) (S.d (D.int _)) _ _ _); refine bd_ge ?_)
  | ((with_reducible show BD _ _ (compareOp CmpOp.Eq) (S.d (D.int _)) (S.d (D.int _)) _ _ _); refine bd_eqI ?_)
  | ((with_reducible show BD _ _ (compareOp CmpOp.NotEq) (S.d (D.int _)) (S.d (D.int _)) _ _ _); refine bd_neI ?_)
  | ((with_reducible show BD _ _ (compareOp CmpOp.Eq) (S.d (D.str _)) (S.d (D.str _)) _ _ _); refine bd_eqS ?_)
  | ((with_reducible show BD _ _ (compareOp CmpOp.NotEq) (S.d (D.str _)) (S.d (D.str _)) _ _ _); refine bd_neS ?_)))
local macro_rules | `(tactic| walk_at "C") => `(tactic| ((with_reducible show CD _ _ _ _ _ _ _); first
  | ((with_reducible show CD _ _ (Value.type "int") _ _ _ _); refine cd_int ?_)
  | ((with_reducible show CD _ _ (Value.builtin "abs") _ _ _ _); refine cd_abs ?_)
  | ((with_reducible show CD _ _ (Value.builtin "max") _ _ _ _); refine cd_max2 rfl ?_)
  | ((with_reducible show CD _ _ (Value.builtin "min") _ _ _ _); refine cd_min2 rfl ?_)
  | ((with_reducible show CD _ _ (Value.builtin "isinstance") _ _ _ _); refine cd_isiK (by first | rfl | assumption) (by first | decide | exact tyD_six (by assumption)) (by decide) (by decide) ?_)
  | ((with_reducible show CD _ _ (Value.builtin "len") _ _ _ _); first | refine cd_lenT ?_ | refine cd_lenS ?_ ?_ | refine cd_lenP rfl ?_ | refine cd_lenL rfl ?_)
  | ((with_reducible show CD _ _ (Value.type "tuple") _ _ _ _); first | refine cd_tupleT ?_ | refine cd_tuple rfl ?_)))
local macro_rules | `(tactic| walk_at "I") => `(tactic| ((with_reducible show ID _ _ _ _ _ _ _); first
  | refine id_lstP rfl rfl ?_ | refine id_tup rfl ?_ | refine id_lst rfl rfl ?_ | refine id_str ?_ ?_ ?_))
local macro_rules | `(tactic| walk_at "S") => `(tactic| ((with_reducible show DS _ _ _ _ _ _); first
  | ((with_reducible show DS _ _ (Stmt.Assign [Expr.Name _ _] _ _) _ _ _); walk_at "set")
  | refine ds_ret ?_ | refine ds_retN ?_ | refine ds_if ?_ | refine ds_expr ?_ rfl | refine ds_pass ?_ | refine ds_break ?_ | refine ds_continue ?_
  | ((with_reducible show DS _ _ (Stmt.Assign [Expr.Subscript _ _ _] _ _) _ _ _); refine ds_setL ?_ (fun _ => rfl) rfl rfl rfl) | refine ds_asg ?_ rfl rfl rfl))
local macro_rules | `(tactic| walk_at "B") => `(tactic| ((with_reducible show DB _ _ _ _ _ _); first | refine db_cons ?_ | refine db_nil ?_))
local macro_rules | `(tactic| walk_at "G") => `(tactic| first
  | ((with_reducible show DG _ _ _ _ _ _ _); first | walk_at "gname" | refine dg_tup rfl rfl rfl rfl ?_)
  | ((with_reducible show DGs _ _ _ _ _ _ _); first | refine dgs_nil ?_ | refine dgs_cons ?_ rfl))
local macro_rules | `(tactic| walk_at "X") => `(tactic| first
  | ((with_reducible show ∃ n ss j i, S.p _ = S.p n ∧ _ ∧ _ ∧ _ ∧ _); refine ⟨_, _, _, _, rfl, rfl, rfl, rfl, ?_⟩)
  | ((with_reducible show ∃ n ss, S.p _ = S.p n ∧ _ ∧ _); refine ⟨_, _, rfl, rfl, ?_⟩)
  | ((with_reducible show ∃ n, S.d (D.int _) = S.d (D.int n) ∧ _ ∧ _ ∧ _); refine ⟨_, rfl, ?_, ?_, ?_⟩)
  | ((with_reducible show ∃ b, S.d (D.bl _) = S.d (D.bl b) ∧ _); refine ⟨_, rfl, ?_⟩)
  | ((with_reducible show ∃ b, S.d (D.int _) = S.d (D.int b) ∧ _); refine ⟨_, rfl, ?_⟩))
local macro_rules | `(tactic| walk_at "step") => `(tactic| first | walk_at "E" | walk_at "O" | walk_at "I" | walk_at "A" | walk_at "C" | walk_at "B" | walk_at "S" | walk_at "T" | walk_at "W" | walk_at "G" | walk_at "X")
local macro_rules | `(tactic| walk_at "go") => `(tactic| repeat walk_at "step")

namespace T
set_option pp.deepTerms false
set_option pp.deepTerms.threshold 3
def top (i : Nat) : Stmt := PySem.Challenge.pw_whoselines_k07_shortest_rows.main.body.getD i (.Pass ⟨0, 0, 0, 0⟩)
def mth (i j : Nat) : Stmt := match top i with
  | .ClassDef _ _ _ b _ _ _ _ _ _ _ => b.getD j (.Pass ⟨0, 0, 0, 0⟩)
  | s => s
section
variable {P : Program} {w : World} {K : PySem.W.Frag} {mg : Str → Option Value} {base : Heap}

def isI : D → Bool
  | .int _ => true
  | _ => false
theorem isI_kb : ∀ {d : D} {T : String}, tyD d = some T → (kb T "int" && !kb T "bool") = isI d
  | .non, _, h => by cases h; show (kb "NoneType" "int" && !kb "NoneType" "bool") = false; decide
  | .bl _, _, h => by cases h; show (kb "bool" "int" && !kb "bool" "bool") = false; decide
  | .int _, _, h => by cases h; show (kb "int" "int" && !kb "int" "bool") = true; decide
  | .str _, _, h => by cases h; show (kb "str" "int" && !kb "str" "bool") = false; decide
  | .lst _, _, h => by cases h; show (kb "list" "int" && !kb "list" "bool") = false; decide
  | .tup _, _, h => by cases h; show (kb "tuple" "int" && !kb "tuple" "bool") = false; decide
def sdII : Sd := fun ss cs Q => ∃ x T, ss = [.d x] ∧ tyD x = some T ∧ cs = [] ∧ Q (.d (.bl (isI x))) []

abbrev sII : Stmt := top 12
theorem scII : FnScope ["value"] ["value"] (defScope sII) := ⟨rfl, rfl, rfl, by decide +kernel, rfl, by decide +kernel, by decide +kernel⟩
section
local macro_rules | `(tactic| walk_at "name") => `(tactic| first
  | ((with_reducible show DE _ _ (Expr.Name (Str.ofString "value") _) _ _ _); refine de_name (i := 0) rfl (by walk_at "vis") rfl ?_ (by decide) (by decide)))
local macro_rules | `(tactic| walk_at "set") => `(tactic| first
  | ((with_reducible show DS _ _ (Stmt.Assign [Expr.Name (Str.ofString "value") _] _ _) _ _ _); refine ds_set (i := 0) ?_ (by assumption) rfl (by walk_at "loc") rfl (by walk_at "loc")))
local macro_rules | `(tactic| walk_at "gname") => `(tactic| first
  | ((with_reducible show DG _ _ (Expr.Name (Str.ofString "value") _) _ _ _ _); refine dg_name (i := 0) (by assumption) rfl (by walk_at "loc") (by walk_at "loc") ?_))

theorem ok_II {f : Addr} {fd : FuncData} (FF : Fun K "is_integer" "is_integer" sII f fd) (m1 : mg "isinstance" = none) (m2 : mg "int" = none) (m3 : mg "bool" = none) : FnG P w K mg base CX0 1 f fd ["value"] (spOf K 1 sdII) := by
  have nd := scII.nd
  refine fn_ok FF scII ?_
  intro cdv A outer s H E F ss cs Q hr hgu hsd hl hθ
  obtain ⟨x, T, rfl, hT, rfl, k⟩ := hsd
  have e := isI_kb hT
  walk_at "go"
  refine ⟨fun h => ?_, fun h => ?_⟩
  · rw [h, Bool.true_and] at e
    walk_at "go"
    exact rets_d rfl (by rw [e]; exact k)
  · rw [h, Bool.false_and] at e
    exact rets_d rfl (by rw [e]; exact k)

end

theorem all_range (l : List Nat) (p : Nat → Bool) : ((List.range l.length).map fun i => ((l[i]?).map p).getD false).all id = l.all p := by
  have e : ((List.range l.length).map fun i => ((l[i]?).map p).getD false) = l.map p := by
    apply List.ext_getElem?
    intro i
    simp only [List.getElem?_map]
    by_cases h : i < l.length
    · rw [List.getElem?_range h]
      simp [h]
    · rw [List.getElem?_eq_none (by simpa using h), List.getElem?_eq_none (by omega)]
      rfl
  rw [e, List.all_map]
  rfl
def wordB (z : Str) : Bool := decide (1 ≤ (z.length : Int)) && decide ((z.length : Int) ≤ 8) && z.cps.toList.all fun c => decide (c ∈ abc.cps.toList)
def isW : D → Bool
  | .str z => wordB z
  | _ => false
theorem isW_kb : ∀ {d : D} {T : String}, tyD d = some T → kb T "str" = false → isW d = false
  | .non, _, h, _ => rfl
  | .bl _, _, h, _ => rfl
  | .int _, _, h, _ => rfl
  | .str _, _, h, k => by cases h; cases k
  | .lst _, _, h, _ => rfl
  | .tup _, _, h, _ => rfl
theorem kb_str : ∀ {d : D} {T : String}, tyD d = some T → kb T "str" = true → ∃ z, d = .str z
  | .non, _, h, k => by cases h; cases k
  | .bl _, _, h, k => by cases h; cases k
  | .int _, _, h, k => by cases h; cases k
  | .str z, _, h, _ => ⟨z, rfl⟩
  | .lst _, _, h, k => by cases h; cases k
  | .tup _, _, h, k => by cases h; cases k
def shortD : D → Bool
  | .str z => decide (z.length ≤ sizeLine)
  | _ => true
def sdIW : Sd := fun ss cs Q => ∃ x T, ss = [.d x] ∧ tyD x = some T ∧ shortD x = true ∧ cs = [] ∧ Q (.d (.bl (isW x))) []

abbrev sIW : Stmt := top 13
theorem scIW : FnScope ["value", "letter"] ["value"] (defScope sIW) := ⟨rfl, rfl, rfl, by decide +kernel, rfl, by decide +kernel, by decide +kernel⟩
section
local macro_rules | `(tactic| walk_at "name") => `(tactic| first
  | ((with_reducible show DE _ _ (Expr.Name (Str.ofString "value") _) _ _ _); refine de_name (i := 0) rfl (by walk_at "vis") rfl ?_ (by decide) (by decide))
  | ((with_reducible show DE _ _ (Expr.Name (Str.ofString "letter") _) _ _ _); refine de_name (i := 1) rfl (by walk_at "vis") rfl ?_ (by decide) (by decide)))
local macro_rules | `(tactic| walk_at "set") => `(tactic| first
  | ((with_reducible show DS _ _ (Stmt.Assign [Expr.Name (Str.ofString "value") _] _ _) _ _ _); refine ds_set (i := 0) ?_ (by assumption) rfl (by walk_at "loc") rfl (by walk_at "loc"))
  | ((with_reducible show DS _ _ (Stmt.Assign [Expr.Name (Str.ofString "letter") _] _ _) _ _ _); refine ds_set (i := 1) ?_ (by assumption) rfl (by walk_at "loc") rfl (by walk_at "loc")))
local macro_rules | `(tactic| walk_at "gname") => `(tactic| first
  | ((with_reducible show DG _ _ (Expr.Name (Str.ofString "value") _) _ _ _ _); refine dg_name (i := 0) (by assumption) rfl (by walk_at "loc") (by walk_at "loc") ?_)
  | ((with_reducible show DG _ _ (Expr.Name (Str.ofString "letter") _) _ _ _ _); refine dg_name (i := 1) (by assumption) rfl (by walk_at "loc") (by walk_at "loc") ?_))

theorem ok_IW {f : Addr} {fd : FuncData} (FF : Fun K "is_word" "is_word" sIW f fd) (m1 : mg "isinstance" = none) (m2 : mg "str" = none) (m3 : mg "len" = none) (m4 : mg "all" = none) {t1 t2 : Tok} (c1 : mg "LETTERS" = some (.str abc t1)) (c2 : mg "LONGEST_WORD" = some (.int 8 t2)) : FnG P w K mg base CX0 1 f fd ["value"] (spOf K 1 sdIW) := by
  have nd := scIW.nd
  refine fn_ok FF scIW ?_
  intro cdv A outer s H E F ss cs Q hr hgu hsd hl hθ
  obtain ⟨x, T, rfl, hT, hs, rfl, k⟩ := hsd
  walk_at "go"
  refine ⟨fun h => ?_, fun h => ?_⟩
  · have h : kb T "str" = false := by simpa using h
    refine ⟨fun _ => ?_, fun h => by cases h⟩
    walk_at "go"
    exact rets_d rfl (by rw [isW_kb hT h] at k; exact k)
  · have h : kb T "str" = true := by simpa using h
    obtain ⟨z, rfl⟩ := kb_str hT h
    have hz : z.length ≤ sizeLine := of_decide_eq_true hs
    have fin : ∀ ρ', ρ' = startS ["value", "letter"] [S.d (.str z)] → decide (1 ≤ (z.length : Int)) = true → decide ((z.length : Int) ≤ 8) = true → DB F (cxOf CX0 P w K mg base ["value", "letter"] "is_word" (defScope sIW) f cdv A outer s H E).nox ((defBody sIW).drop 1) ρ' [] { nx := fun _ M => RetS 0 (.d .non) M Q, rt := fun t M => RetS 0 t M Q } := by
      rintro ρ' rfl a1 a2
      have e8 : z.length ≤ 8 := by have := of_decide_eq_true a2; omega
      walk_at "go"
      refine de_lcS (i := 1) rfl nd (blkOk_by rfl) (fun s H C cl fp => pg_name nd rfl (by walk_at "loc") (by walk_at "loc")) (fun _ => rfl) ?_
      walk_at "go"
      refine ⟨z, rfl, fun k acc M1 => acc = (List.range k).map (fun i => D.bl (((z.cps.toList[i]?).map fun c => decide (c ∈ abc.cps.toList)).getD false)) ∧ M1 = [], ⟨rfl, rfl⟩, ?_, ?_⟩
      · rintro k c acc M1 hc ⟨ea, eM⟩ hl1
        have hk : k < z.cps.toList.length := (List.getElem?_eq_some_iff.mp hc).1
        have hk2 : z.cps.toList.length = z.length := by simp [Str.length]
        intro s H' C cl fp
        refine dts_nil ⟨fun _ s H' C cl fp => ?_, fun h => by cases h⟩
        subst eM
        walk_at "go"
        refine bd_inSign ⟨_, [], rfl, rfl, rfl, ?_, ?_, rfl⟩
        · rw [ea, List.length_map, List.length_range, sizeLine_eq]; omega
        · rw [ea, List.range_succ, List.map_append]
          simp only [List.map_cons, List.map_nil, hc, Option.map_some, Option.getD_some]
      · rintro acc M1 ⟨ea, rfl⟩ hl1
        refine ⟨rfl, ?_⟩
        have ea2 : acc = ((List.range z.cps.toList.length).map fun i => ((z.cps.toList[i]?).map fun c => decide (c ∈ abc.cps.toList)).getD false).map D.bl := by rw [ea, List.map_map]; rfl
        rw [ea2]
        walk_at "go"
        refine cd_all rfl ?_
        refine rets_d rfl ?_
        rw [all_range]
        have e : isW (.str z) = z.cps.toList.all fun c => decide (c ∈ abc.cps.toList) := by
          show (decide (1 ≤ (z.length : Int)) && decide ((z.length : Int) ≤ 8) && _) = _
          rw [a1, a2]; rfl
        rw [e] at k
        exact k
    walk_at "go"
    · refine ⟨fun a1 => ?_, fun a1 => ?_⟩
      · walk_at "go"
        refine ⟨fun a2 => ?_, fun a2 => ?_⟩
        · walk_at "go"
          refine rets_d rfl ?_
          have e : isW (.str z) = false := by
            show (decide (1 ≤ (z.length : Int)) && decide ((z.length : Int) ≤ 8) && _) = _
            rw [show decide ((z.length : Int) ≤ 8) = false by simpa using a2, Bool.and_false, Bool.false_and]
          rw [e] at k
          exact k
        · refine db_nil ?_
          exact fin _ rfl a1 (by simpa using a2)
      · refine ⟨fun _ => ?_, fun h => by cases h⟩
        walk_at "go"
        refine rets_d rfl ?_
        have e : isW (.str z) = false := by
          show (decide (1 ≤ (z.length : Int)) && decide ((z.length : Int) ≤ 8) && _) = _
          rw [a1, Bool.false_and, Bool.false_and]
        rw [e] at k
        exact k
    · exact hz

end

def isSt (n : Int) : D → Bool
  | .int i => decide (0 ≤ i) && decide (i < n)
  | _ => false
theorem isI_int : ∀ {d : D}, isI d = true → ∃ i, d = .int i
  | .int i, _ => ⟨i, rfl⟩
theorem isSt_not {n : Int} : ∀ {d : D}, isI d = false → isSt n d = false
  | .int i, h => by cases h
  | .non, _ => rfl
  | .bl _, _ => rfl
  | .str _, _ => rfl
  | .lst _, _ => rfl
  | .tup _, _ => rfl
  | .ins _ _, _ => rfl
  | .dT _, _ => rfl
  | .dK _, _ => rfl
  | .raw _, _ => rfl
def sdST : Sd := fun ss cs Q => ∃ n x T, ss = [.d (.int n), .d x] ∧ tyD x = some T ∧ cs = [] ∧ Q (.d (.bl (isSt n x))) []

abbrev sST : Stmt := top 26
theorem scST : FnScope ["size", "value"] ["size", "value"] (defScope sST) := ⟨rfl, rfl, rfl, by decide +kernel, rfl, by decide +kernel, by decide +kernel⟩
section
local macro_rules | `(tactic| walk_at "name") => `(tactic| first
  | ((with_reducible show DE _ _ (Expr.Name (Str.ofString "size") _) _ _ _); refine de_name (i := 0) rfl (by walk_at "vis") rfl ?_ (by decide) (by decide))
  | ((with_reducible show DE _ _ (Expr.Name (Str.ofString "value") _) _ _ _); refine de_name (i := 1) rfl (by walk_at "vis") rfl ?_ (by decide) (by decide)))
local macro_rules | `(tactic| walk_at "set") => `(tactic| first
  | ((with_reducible show DS _ _ (Stmt.Assign [Expr.Name (Str.ofString "size") _] _ _) _ _ _); refine ds_set (i := 0) ?_ (by assumption) rfl (by walk_at "loc") rfl (by walk_at "loc"))
  | ((with_reducible show DS _ _ (Stmt.Assign [Expr.Name (Str.ofString "value") _] _ _) _ _ _); refine ds_set (i := 1) ?_ (by assumption) rfl (by walk_at "loc") rfl (by walk_at "loc")))
local macro_rules | `(tactic| walk_at "gname") => `(tactic| first
  | ((with_reducible show DG _ _ (Expr.Name (Str.ofString "size") _) _ _ _ _); refine dg_name (i := 0) (by assumption) rfl (by walk_at "loc") (by walk_at "loc") ?_)
  | ((with_reducible show DG _ _ (Expr.Name (Str.ofString "value") _) _ _ _ _); refine dg_name (i := 1) (by assumption) rfl (by walk_at "loc") (by walk_at "loc") ?_))

theorem ok_ST {f : Addr} {fd : FuncData} (FF : Fun K "_is_state" "_is_state" sST f fd) (c1 : Cal P w K mg base 1 "is_integer" ["value"] sdII) : FnG P w K mg base CX0 2 f fd ["size", "value"] (spOf K 2 sdST) := by
  have nd := scST.nd
  refine fn_ok FF scST ?_
  intro cdv A outer s H E F ss cs Q hr hgu hsd hl hθ
  obtain ⟨n, x, T, rfl, hT, rfl, k⟩ := hsd
  walk_at "go"
  refine spd0' rfl rfl ⟨x, T, rfl, hT, rfl, got_d ?_⟩
  refine ⟨_, rfl, fun h => ?_, fun h => ?_⟩
  · obtain ⟨i, rfl⟩ := isI_int h
    walk_at "go"
    refine ⟨fun a1 => ?_, fun a1 => ?_⟩
    · walk_at "go"
      exact rets_d rfl (by rw [show isSt n (.int i) = decide (i < n) by simp [isSt, a1] <;> simpa using a1] at k; exact k)
    · exact rets_d rfl (by rw [show isSt n (.int i) = false by simp [isSt]; intro q; simp at a1; omega] at k; exact k)
  · exact rets_d rfl (by rw [isSt_not h] at k; exact k)

end
end
end T
end

section
set_option Elab.async false
set_option linter.all false
set_option maxRecDepth 100000
set_option maxHeartbeats 2000000
open PySem PySem.Spec PyProof.Rows L2 DL

local macro_rules | `(tactic| walk_at "vis") => `(tactic| first | exact Or.inl rfl | exact Or.inr (Or.inl rfl) | exact Or.inr (Or.inr rfl))
local macro_rules | `(tactic| walk_at "loc") => `(tactic| first | exact Or.inl rfl | exact Or.inr rfl)
local macro_rules | `(tactic| walk_at "side") => `(tactic| first | assumption | omega | decide)
local macro_rules | `(tactic| walk_at "callB") => `(tactic| first
  | ((with_reducible show DE _ _ (Expr.Call (Expr.Name (Str.ofString "len") _) _ _ _) _ _ _); refine de_callB (id := "len") rfl (by assumption) (by decide +kernel) (by decide) (by decide) rfl rfl ?_)
  | ((with_reducible show DE _ _ (Expr.Call (Expr.Name (Str.ofString "max") _) _ _ _) _ _ _); refine de_callB (id := "max") rfl (by assumption) (by decide +kernel) (by decide) (by decide) rfl rfl ?_)
  | ((with_reducible show DE _ _ (Expr.Call (Expr.Name (Str.ofString "min") _) _ _ _) _ _ _); refine de_callB (id := "min") rfl (by assumption) (by decide +kernel) (by decide) (by decide) rfl rfl ?_)
  | ((with_reducible show DE _ _ (Expr.Call (Expr.Name (Str.ofString "abs") _) _ _ _) _ _ _); refine de_callB (id := "abs") rfl (by assumption) (by decide +kernel) (by decide) (by decide) rfl rfl ?_)
  | ((with_reducible show DE _ _ (Expr.Call (Expr.Name (Str.ofString "repr") _) _ _ _) _ _ _); refine de_callB (id := "repr") rfl (by assumption) (by decide +kernel) (by decide) (by decide) rfl rfl ?_)
  | ((with_reducible show DE _ _ (Expr.Call (Expr.Name (Str.ofString "isinstance") _) _ _ _) _ _ _); refine de_callB (id := "isinstance") rfl (by assumption) (by decide +kernel) (by decide) (by decide) rfl rfl ?_)
  | ((with_reducible show DE _ _ (Expr.Call (Expr.Name (Str.ofString "sorted") _) _ _ _) _ _ _); refine de_callB (id := "sorted") rfl (by assumption) (by decide +kernel) (by decide) (by decide) rfl rfl ?_)
  | ((with_reducible show DE _ _ (Expr.Call (Expr.Name (Str.ofString "all") _) _ _ _) _ _ _); refine de_callB (id := "all") rfl (by assumption) (by decide +kernel) (by decide) (by decide) rfl rfl ?_)
  | ((with_reducible show DE _ _ (Expr.Call (Expr.Name (Str.ofString "any") _) _ _ _) _ _ _); refine de_callB (id := "any") rfl (by assumption) (by decide +kernel) (by decide) (by decide) rfl rfl ?_)
  | ((with_reducible show DE _ _ (Expr.Call (Expr.Name (Str.ofString "sum") _) _ _ _) _ _ _); refine de_callB (id := "sum") rfl (by assumption) (by decide +kernel) (by decide) (by decide) rfl rfl ?_)
  | ((with_reducible show DE _ _ (Expr.Call (Expr.Name (Str.ofString "int") _) _ _ _) _ _ _); refine de_callTy (T := "int") rfl (by assumption) (by decide +kernel) (by decide) (by decide) rfl rfl ?_)
  | ((with_reducible show DE _ _ (Expr.Call (Expr.Name (Str.ofString "tuple") _) _ _ _) _ _ _); refine de_callTy (T := "tuple") rfl (by assumption) (by decide +kernel) (by decide) (by decide) rfl rfl ?_)
  | ((with_reducible show DE _ _ (Expr.Call (Expr.Name (Str.ofString "list") _) _ _ _) _ _ _); refine de_callTy (T := "list") rfl (by assumption) (by decide +kernel) (by decide) (by decide) rfl rfl ?_)
  | ((with_reducible show DE _ _ (Expr.Call (Expr.Name (Str.ofString "set") _) _ _ _) _ _ _); refine de_callTy (T := "set") rfl (by assumption) (by decide +kernel) (by decide) (by decide) rfl rfl ?_)
  | ((with_reducible show DE _ _ (Expr.Call (Expr.Name (Str.ofString "str") _) _ _ _) _ _ _); refine de_callTy (T := "str") rfl (by assumption) (by decide +kernel) (by decide) (by decide) rfl rfl ?_))
local macro_rules | `(tactic| walk_at "own") => `(tactic| refine de_own (by assumption) (by assumption) (by assumption) (by decide) rfl (by decide) rfl rfl ?_)
local macro_rules | `(tactic| walk_at "bname") => `(tactic| first
  | ((with_reducible show DE _ _ (Expr.Name (Str.ofString "LETTERS") _) _ _ _); refine de_glob (v := .str abc) rfl (by assumption) ⟨_, rfl⟩ (fun _ => .str _) ?_ (by decide))
  | ((with_reducible show DE _ _ (Expr.Name (Str.ofString "LONGEST_WORD") _) _ _ _); refine de_glob (v := .int 8) rfl (by assumption) ⟨_, rfl⟩ (fun _ => .int _) ?_ (by decide))
  | ((with_reducible show DE _ _ (Expr.Name (Str.ofString "MOST_STATES") _) _ _ _); refine de_glob (v := .int 5) rfl (by assumption) ⟨_, rfl⟩ (fun _ => .int _) ?_ (by decide))
  | ((with_reducible show DE _ _ (Expr.Name (Str.ofString "MOST_ARROWS") _) _ _ _); refine de_glob (v := .int 40) rfl (by assumption) ⟨_, rfl⟩ (fun _ => .int _) ?_ (by decide))
  | ((with_reducible show DE _ _ (Expr.Name (Str.ofString "int") _) _ _ _); refine de_bltn (v := .ty "int") rfl (by assumption) (by decide +kernel) rfl ?_ (by decide) (by decide))
  | ((with_reducible show DE _ _ (Expr.Name (Str.ofString "bool") _) _ _ _); refine de_bltn (v := .ty "bool") rfl (by assumption) (by decide +kernel) rfl ?_ (by decide) (by decide))
  | ((with_reducible show DE _ _ (Expr.Name (Str.ofString "str") _) _ _ _); refine de_bltn (v := .ty "str") rfl (by assumption) (by decide +kernel) rfl ?_ (by decide) (by decide))
  | ((with_reducible show DE _ _ (Expr.Name (Str.ofString "tuple") _) _ _ _); refine de_bltn (v := .ty "tuple") rfl (by assumption) (by decide +kernel) rfl ?_ (by decide) (by decide))
  | ((with_reducible show DE _ _ (Expr.Name (Str.ofString "list") _) _ _ _); refine de_bltn (v := .ty "list") rfl (by assumption) (by decide +kernel) rfl ?_ (by decide) (by decide)))
local macro_rules | `(tactic| walk_at "E") => `(tactic| ((with_reducible show DE _ _ _ _ _ _); first
  | ((with_reducible show DE _ _ (Expr.Name _ _) _ _ _); first | walk_at "name" | walk_at "bname")
  | refine de_int ?_ | refine de_str ?_ | refine de_bl ?_ | refine de_non ?_
  | ((with_reducible show DE _ _ (Expr.Subscript _ (Expr.Tuple _ _ _) _) _ _ _); refine de_dget (by assumption) ?_ (fun _ _ => rfl))
  | ((with_reducible show DE _ _ (Expr.Subscript _ (Expr.Slice _ _ _ _) _) _ _ _); first | refine de_revS ?_ | refine de_slice ?_)
  | refine de_ix ?_ (fun _ _ => rfl)
  | refine de_bin ?_ | refine de_cmp ?_ (by first | exact nomark _ | rfl) | refine de_chain ?_ rfl
  | refine de_one ?_ | refine de_neg ?_ | refine de_and ?_ | refine de_or ?_ | refine de_not ?_ | refine de_if ?_
  | refine de_tup ?_ | refine de_lstP (es := []) ?_ | refine de_lst ?_
  | ((with_reducible show DE _ _ (Expr.Call (Expr.Name _ _) _ _ _) _ _ _); first | walk_at "callB" | walk_at "own")
  | ((with_reducible show DE _ _ (Expr.Call (Expr.Attribute _ (Str.ofString "append") _) _ _ _) _ _ _); refine de_append ?_ rfl rfl rfl rfl rfl)
  | ((with_reducible show DE _ _ (Expr.Call (Expr.Attribute _ (Str.ofString "insert") _) _ _ _) _ _ _); refine de_insert ?_ rfl rfl rfl rfl rfl rfl)))
local macro_rules | `(tactic| walk_at "T") => `(tactic| ((with_reducible show DT _ _ _ _ _ _); first
  | ((with_reducible show DT _ _ (Expr.Compare (Expr.Tuple _ _ _) [CmpOp.In] _ _) _ _ _); refine dt_din (by assumption) ?_ rfl)
  | refine dt_cmp ?_ (by first | exact nomark _ | rfl) | refine dt_chain ?_ rfl | refine dt_not ?_ | refine dt_w (dw_and ?_) | refine dt_w (dw_or ?_) | refine dt_val ?_ (fun _ => rfl)))
local macro_rules | `(tactic| walk_at "W") => `(tactic| ((with_reducible show DW _ _ _ _ _ _); first
  | refine dw_and ?_ | refine dw_or ?_ | refine dw_and1 ?_ | refine dw_or1 ?_))
local macro_rules | `(tactic| walk_at "A") => `(tactic| ((with_reducible show DA _ _ _ _ _ _); first | refine da_nil ?_ | refine da_cons ?_ rfl))
local macro_rules | `(tactic| walk_at "O") => `(tactic| ((with_reducible show BD _ _ _ _ _ _ _ _); first
  | ((with_reducible show BD _ _ (binaryOp Operator.Add) (S.d (D.int _)) (S.d (D.int _)) _ _ _); refine bd_add ?_)
  | ((with_reducible show BD _ _ (binaryOp Operator.Add) (S.d (D.str _)) (S.d (D.str _)) _ _ _); refine bd_addS ?_ ?_)
  | ((with_reducible show BD _ _ (binaryOp Operator.Sub) (S.d (D.int _)) (S.d (D.int _)) _ _ _); refine bd_sub ?_)
  | ((with_reducible show BD _ _ (binaryOp Operator.Mod) (S.d (D.int _)) (S.d (D.int _)) _ _ _); refine bd_mod (by walk_at "side") ?_)
  | ((with_reducible show BD _ _ (binaryOp Operator.Mult) (S.d (D.int _)) (S.d (D.int _)) _ _ _); refine bd_mul ?_ ?_)
  | ((with_reducible show BD _ _ (binaryOp Operator.FloorDiv) (S.d (D.int _)) (S.d (D.int _)) _ _ _); refine bd_fdivW ?_ ?_)
  | ((with_reducible show BD _ _ (binaryOp Operator.Pow) (S.d (D.int _)) (S.d (D.int _)) _ _ _); refine bd_pow ?_ ?_)
  | ((with_reducible show BD _ _ (compareOp CmpOp.Lt) (S.d (D.int _)) (S.d (D.int _)) _ _ _); refine bd_lt ?_)
  | ((with_reducible show BD _ _ (compareOp CmpOp.LtE) (S.d (D.int _)) (S.d (D.int _)) _ _ _); refine bd_le ?_)
  | ((with_reducible show BD _ _ (compareOp CmpOp.Gt) (S.d (D.int _)) (S.d (D.int _)) _ _ _); refine bd_gt ?_)
  | ((with_reducible show BD _ _ (compareOp CmpOp.GtE) (S.d (D.int _)) (S.d (D.int _)) _ _ _); refine bd_ge ?_)
  | ((with_reducible show BD _ _ (compareOp CmpOp.Eq) (S.d (D.int _)) (S.d (D.int _)) _ _ _); refine bd_eqI ?_)
  | ((with_reducible show BD _ _ (compareOp CmpOp.NotEq) (S.d (D.int _)) (S.d (D.int _)) _ _ _); refine bd_neI ?_)
  | ((with_reducible show BD _ _ (compareOp CmpOp.Eq) (S.d (D.str _)) (S.d (D.str _)) _ _ _); refine bd_eqS ?_)
  | ((with_reducible show BD _ _ (compareOp CmpOp.NotEq) (S.d (D.str _)) (S.d (D.str _)) _ _ _); refine bd_neS ?_)))
local macro_rules | `(tactic| walk_at "C") => `(tactic| ((with_reducible show CD _ _ _ _ _ _ _); first
  | ((with_reducible show CD _ _ (Value.type "int") _ _ _ _); refine cd_int ?_)
  | ((with_reducible show CD _ _ (Value.builtin "abs") _ _ _ _); refine cd_abs ?_)
  | ((with_reducible show CD _ _ (Value.builtin "max") _ _ _ _); refine cd_max2 rfl ?_)
  | ((with_reducible show CD _ _ (Value.builtin "min") _ _ _ _); refine cd_min2 rfl ?_)
  | ((with_reducible show CD _ _ (Value.builtin "isinstance") _ _ _ _); refine cd_isiK (by first | rfl | assumption) (by first | decide | exact tyD_six (by assumption)) (by decide) (by decide) ?_)
  | ((with_reducible show CD _ _ (Value.builtin "len") _ _ _ _); first | refine cd_lenT ?_ | refine cd_lenS ?_ ?_ | refine cd_lenP rfl ?_ | refine cd_lenL rfl ?_)
  | ((with_reducible show CD _ _ (Value.type "tuple") _ _ _ _); first | refine cd_tupleT ?_ | refine cd_tuple rfl ?_)))
local macro_rules | `(tactic| walk_at "I") => `(tactic| ((with_reducible show ID _ _ _ _ _ _ _); first
  | refine id_lstP rfl rfl ?_ | refine id_tup rfl ?_ | refine id_lst rfl rfl ?_ | refine id_str ?_ ?_ ?_))
local macro_rules | `(tactic| walk_at "S") => `(tactic| ((with_reducible show DS _ _ _ _ _ _); first
  | ((with_reducible show DS _ _ (Stmt.Assign [Expr.Name _ _] _ _) _ _ _); walk_at "set")
  | refine ds_ret ?_ | refine ds_retN ?_ | refine ds_if ?_ | refine ds_expr ?_ rfl | refine ds_pass ?_ | refine ds_break ?_ | refine ds_continue ?_
  | ((with_reducible show DS _ _ (Stmt.Assign [Expr.Attribute _ _ _] _ _) _ _ _); refine ds_fld ?_ rfl)
  | ((with_reducible show DS _ _ (Stmt.Assign [Expr.Subscript _ (Expr.Tuple _ _ _) _] _ _) _ _ _); refine ds_dput (by assumption) ?_ rfl)
  | ((with_reducible show DS _ _ (Stmt.Assign [Expr.Subscript _ _ _] _ _) _ _ _); refine ds_setL ?_ (fun _ => rfl) rfl rfl rfl) | refine ds_asg ?_ rfl rfl rfl))
local macro_rules | `(tactic| walk_at "B") => `(tactic| ((with_reducible show DB _ _ _ _ _ _); first | refine db_cons ?_ | refine db_nil ?_))
local macro_rules | `(tactic| walk_at "G") => `(tactic| first
  | ((with_reducible show DG _ _ _ _ _ _ _); first | walk_at "gname" | refine dg_tup rfl rfl rfl rfl ?_)
  | ((with_reducible show DGs _ _ _ _ _ _ _); first | refine dgs_nil ?_ | refine dgs_cons ?_ rfl))
local macro_rules | `(tactic| walk_at "X") => `(tactic| first
  | ((with_reducible show ∃ n ss j i, S.p _ = S.p n ∧ _ ∧ _ ∧ _ ∧ _); refine ⟨_, _, _, _, rfl, rfl, rfl, rfl, ?_⟩)
  | ((with_reducible show ∃ n ss, S.p _ = S.p n ∧ _ ∧ _); refine ⟨_, _, rfl, rfl, ?_⟩)
  | ((with_reducible show ∃ n, S.d (D.int _) = S.d (D.int n) ∧ _ ∧ _ ∧ _); refine ⟨_, rfl, ?_, ?_, ?_⟩)
  | ((with_reducible show ∃ b, S.d (D.bl _) = S.d (D.bl b) ∧ _); refine ⟨_, rfl, ?_⟩)
  | ((with_reducible show ∃ b, S.d (D.int _) = S.d (D.int b) ∧ _); refine ⟨_, rfl, ?_⟩))
local macro_rules | `(tactic| walk_at "D") => `(tactic| ((with_reducible show DO _ _ _ _ _ _); first | refine do_none ?_ | refine do_some ?_))
local macro_rules | `(tactic| walk_at "step") => `(tactic| first | walk_at "E" | walk_at "O" | walk_at "I" | walk_at "A" | walk_at "C" | walk_at "B" | walk_at "S" | walk_at "T" | walk_at "W" | walk_at "G" | walk_at "D" | walk_at "X")
local macro_rules | `(tactic| walk_at "go") => `(tactic| repeat walk_at "step")
local macro_rules | `(tactic| walk_at "goE") => `(tactic| repeat (first | walk_at "E" | walk_at "O" | walk_at "I" | walk_at "A" | walk_at "C" | walk_at "T" | walk_at "W" | walk_at "G" | walk_at "D" | walk_at "X"))

namespace T
set_option pp.deepTerms false
set_option pp.deepTerms.threshold 3
section
variable {P : Program} {w : World} {K : PySem.W.Frag} {mg : Str → Option Value} {base : Heap}


def sdAR : Sd := fun ss cs Q => ∃ n s w t, ss = [.d (.int n), .d (.tup [.int s, .str w, .int t])] ∧ w.length ≤ sizeLine ∧ cs = [] ∧ Q (.d (.bl (isSt n (.int s) && wordB w && isSt n (.int t)))) []

abbrev sAR : Stmt := top 27
theorem scAR : FnScope ["size", "value", "state", "sign", "target"] ["size", "value"] (defScope sAR) := ⟨rfl, rfl, rfl, by decide +kernel, rfl, by decide +kernel, by decide +kernel⟩
section
local macro_rules | `(tactic| walk_at "name") => `(tactic| first
  | ((with_reducible show DE _ _ (Expr.Name (Str.ofString "size") _) _ _ _); refine de_name (i := 0) rfl (by walk_at "vis") rfl ?_ (by decide) (by decide))
  | ((with_reducible show DE _ _ (Expr.Name (Str.ofString "value") _) _ _ _); refine de_name (i := 1) rfl (by walk_at "vis") rfl ?_ (by decide) (by decide))
  | ((with_reducible show DE _ _ (Expr.Name (Str.ofString "state") _) _ _ _); refine de_name (i := 2) rfl (by walk_at "vis") rfl ?_ (by decide) (by decide))
  | ((with_reducible show DE _ _ (Expr.Name (Str.ofString "sign") _) _ _ _); refine de_name (i := 3) rfl (by walk_at "vis") rfl ?_ (by decide) (by decide))
  | ((with_reducible show DE _ _ (Expr.Name (Str.ofString "target") _) _ _ _); refine de_name (i := 4) rfl (by walk_at "vis") rfl ?_ (by decide) (by decide)))
local macro_rules | `(tactic| walk_at "set") => `(tactic| first
  | ((with_reducible show DS _ _ (Stmt.Assign [Expr.Name (Str.ofString "size") _] _ _) _ _ _); refine ds_set (i := 0) ?_ (by assumption) rfl (by walk_at "loc") rfl (by walk_at "loc"))
  | ((with_reducible show DS _ _ (Stmt.Assign [Expr.Name (Str.ofString "value") _] _ _) _ _ _); refine ds_set (i := 1) ?_ (by assumption) rfl (by walk_at "loc") rfl (by walk_at "loc"))
  | ((with_reducible show DS _ _ (Stmt.Assign [Expr.Name (Str.ofString "state") _] _ _) _ _ _); refine ds_set (i := 2) ?_ (by assumption) rfl (by walk_at "loc") rfl (by walk_at "loc"))
  | ((with_reducible show DS _ _ (Stmt.Assign [Expr.Name (Str.ofString "sign") _] _ _) _ _ _); refine ds_set (i := 3) ?_ (by assumption) rfl (by walk_at "loc") rfl (by walk_at "loc"))
  | ((with_reducible show DS _ _ (Stmt.Assign [Expr.Name (Str.ofString "target") _] _ _) _ _ _); refine ds_set (i := 4) ?_ (by assumption) rfl (by walk_at "loc") rfl (by walk_at "loc")))
local macro_rules | `(tactic| walk_at "gname") => `(tactic| first
  | ((with_reducible show DG _ _ (Expr.Name (Str.ofString "size") _) _ _ _ _); refine dg_name (i := 0) (by assumption) rfl (by walk_at "loc") (by walk_at "loc") ?_)
  | ((with_reducible show DG _ _ (Expr.Name (Str.ofString "value") _) _ _ _ _); refine dg_name (i := 1) (by assumption) rfl (by walk_at "loc") (by walk_at "loc") ?_)
  | ((with_reducible show DG _ _ (Expr.Name (Str.ofString "state") _) _ _ _ _); refine dg_name (i := 2) (by assumption) rfl (by walk_at "loc") (by walk_at "loc") ?_)
  | ((with_reducible show DG _ _ (Expr.Name (Str.ofString "sign") _) _ _ _ _); refine dg_name (i := 3) (by assumption) rfl (by walk_at "loc") (by walk_at "loc") ?_)
  | ((with_reducible show DG _ _ (Expr.Name (Str.ofString "target") _) _ _ _ _); refine dg_name (i := 4) (by assumption) rfl (by walk_at "loc") (by walk_at "loc") ?_))

theorem ok_AR {f : Addr} {fd : FuncData} (FF : Fun K "_is_arrow" "_is_arrow" sAR f fd) (m1 : mg "isinstance" = none) (m2 : mg "tuple" = none) (m3 : mg "len" = none) (c1 : Cal P w K mg base 2 "_is_state" ["size", "value"] sdST) (c2 : Cal P w K mg base 1 "is_word" ["value"] sdIW) : FnG P w K mg base CX0 3 f fd ["size", "value"] (spOf K 2 sdAR) := by
  have nd := scAR.nd
  refine fn_ok FF scAR ?_
  intro cdv A outer s H E F ss cs Q hr hgu hsd hl hθ
  obtain ⟨n, st, wd, t, rfl, hw, rfl, k⟩ := hsd
  walk_at "go"
  refine ⟨fun h => absurd h (by decide), fun _ => ?_⟩
  walk_at "go"
  refine ⟨fun h => absurd h (by simp), fun _ => ?_⟩
  walk_at "go"
  refine spd0' rfl rfl ⟨n, _, _, rfl, rfl, rfl, got_d ?_⟩
  refine ⟨_, rfl, fun h1 => ?_, fun h1 => ?_⟩
  · walk_at "go"
    refine spd0' rfl rfl ⟨_, _, rfl, rfl, decide_eq_true hw, rfl, got_d ?_⟩
    refine ⟨_, rfl, fun h2 => ?_, fun h2 => ?_⟩
    · walk_at "go"
      refine spd0' rfl rfl ⟨n, _, _, rfl, rfl, rfl, got_d ?_⟩
      exact rets_d rfl (by rw [h1, show wordB wd = true from h2, Bool.true_and, Bool.true_and] at k; exact k)
    · exact rets_d rfl (by rw [show wordB wd = false from h2, Bool.and_false, Bool.false_and] at k; exact k)
  · exact rets_d rfl (by rw [h1, Bool.false_and, Bool.false_and] at k; exact k)

end

theorem foldK_out : ∀ (ks l : List Key), (l ++ ks).Nodup → ks.foldl addK l = l ++ ks
  | [], l, _ => by simp
  | k :: ks, l, h => by
    have hk : k ∉ l := fun m => by
      rw [List.nodup_append] at h
      exact h.2.2 k m k List.mem_cons_self rfl
    show ks.foldl addK (addK l k) = _
    rw [addK_out hk, foldK_out ks (l ++ [k]) (by simpa using h)]
    simp
theorem dedK_same {ks : List Key} (h : ks.Nodup) : dedK ks = ks := foldK_out ks [] (by simpa using h)
def sdAE : Sd := fun ss cs Q => ∃ (n : Int) (es : List Int), ss = [.d (.int n), .d (.tup (es.map D.int))] ∧ (∀ e ∈ es, 0 ≤ e ∧ e < n) ∧ es.Nodup ∧ es.length ≤ 100 ∧ cs = [] ∧ Q (.d (.bl true)) []

abbrev sAE : Stmt := top 28
theorem scAE : FnScope ["size", "value", "item"] ["size", "value"] (defScope sAE) := ⟨rfl, rfl, rfl, by decide +kernel, rfl, by decide +kernel, by decide +kernel⟩
section
local macro_rules | `(tactic| walk_at "name") => `(tactic| first
  | ((with_reducible show DE _ _ (Expr.Name (Str.ofString "size") _) _ _ _); refine de_name (i := 0) rfl (by walk_at "vis") rfl ?_ (by decide) (by decide))
  | ((with_reducible show DE _ _ (Expr.Name (Str.ofString "value") _) _ _ _); refine de_name (i := 1) rfl (by walk_at "vis") rfl ?_ (by decide) (by decide))
  | ((with_reducible show DE _ _ (Expr.Name (Str.ofString "item") _) _ _ _); refine de_name (i := 2) rfl (by walk_at "vis") rfl ?_ (by decide) (by decide)))
local macro_rules | `(tactic| walk_at "set") => `(tactic| first
  | ((with_reducible show DS _ _ (Stmt.Assign [Expr.Name (Str.ofString "size") _] _ _) _ _ _); refine ds_set (i := 0) ?_ (by assumption) rfl (by walk_at "loc") rfl (by walk_at "loc"))
  | ((with_reducible show DS _ _ (Stmt.Assign [Expr.Name (Str.ofString "value") _] _ _) _ _ _); refine ds_set (i := 1) ?_ (by assumption) rfl (by walk_at "loc") rfl (by walk_at "loc"))
  | ((with_reducible show DS _ _ (Stmt.Assign [Expr.Name (Str.ofString "item") _] _ _) _ _ _); refine ds_set (i := 2) ?_ (by assumption) rfl (by walk_at "loc") rfl (by walk_at "loc")))
local macro_rules | `(tactic| walk_at "gname") => `(tactic| first
  | ((with_reducible show DG _ _ (Expr.Name (Str.ofString "size") _) _ _ _ _); refine dg_name (i := 0) (by assumption) rfl (by walk_at "loc") (by walk_at "loc") ?_)
  | ((with_reducible show DG _ _ (Expr.Name (Str.ofString "value") _) _ _ _ _); refine dg_name (i := 1) (by assumption) rfl (by walk_at "loc") (by walk_at "loc") ?_)
  | ((with_reducible show DG _ _ (Expr.Name (Str.ofString "item") _) _ _ _ _); refine dg_name (i := 2) (by assumption) rfl (by walk_at "loc") (by walk_at "loc") ?_))

theorem ok_AE {f : Addr} {fd : FuncData} (FF : Fun K "_are_ends" "_are_ends" sAE f fd) (m1 : mg "isinstance" = none) (m2 : mg "tuple" = none) (m3 : mg "len" = none) (m4 : mg "all" = none) (m5 : mg "set" = none) (c1 : Cal P w K mg base 2 "_is_state" ["size", "value"] sdST) : FnG P w K mg base CX0 3 f fd ["size", "value"] (spOf K 2 sdAE) := by
  have nd := scAE.nd
  refine fn_ok FF scAE ?_
  intro cdv A outer s H E F ss cs Q hr hgu hsd hl hθ
  obtain ⟨n, es, rfl, hes, hnd, hlen, rfl, k⟩ := hsd
  walk_at "go"
  refine ⟨fun h => absurd h (by decide), fun _ => ?_⟩
  walk_at "go"
  refine de_lcT (i := 2) rfl nd (blkOk_by rfl) (fun s H C cl fp => pg_name nd rfl (by walk_at "loc") (by walk_at "loc")) (fun _ => rfl) ?_
  walk_at "go"
  refine ⟨_, rfl, fun k acc M1 => acc = ((List.range k).map fun _ => true).map D.bl ∧ M1 = [], ⟨rfl, rfl⟩, ?_, ?_⟩
  · rintro k d acc M1 hc ⟨ea, eM⟩ hl1
    intro s H2 C cl fp
    refine dts_nil ⟨fun _ s H2 C cl fp => ?_, fun h => by cases h⟩
    subst eM
    rw [List.getElem?_map] at hc
    obtain ⟨e, he, rfl⟩ := Option.map_eq_some_iff.mp hc
    have hk : k < es.length := (List.getElem?_eq_some_iff.mp he).1
    obtain ⟨e0, e1⟩ := hes e (List.mem_of_getElem? he)
    walk_at "go"
    refine spd0' rfl rfl ⟨n, _, _, rfl, rfl, rfl, got_d ⟨_, [], rfl, rfl, rfl, ?_, ?_, rfl⟩⟩
    · rw [ea, List.length_map, List.length_map, List.length_range, sizeLine_eq]; omega
    · rw [ea, List.range_succ, List.map_append, List.map_append]
      simp [isSt, e0, e1]
  · rintro acc M1 ⟨ea, rfl⟩ hl1
    refine ⟨rfl, ?_⟩
    rw [ea]
    walk_at "go"
    refine cd_all rfl ?_
    refine ⟨_, rfl, fun _ => ?_, fun h => absurd h (by simp)⟩
    walk_at "go"
    have ek : (es.map (Sum.inl : Int → Key)).map kD = es.map D.int := by rw [List.map_map]; rfl
    have nk : (es.map (Sum.inl : Int → Key)).Nodup := by
      rw [List.Nodup, List.pairwise_map]
      exact hnd.imp fun h e => h (Sum.inl.inj e)
    refine cd_setM (ks := es.map (Sum.inl : Int → Key)) rfl (.inr (by rw [ek])) (by rw [List.length_map]; exact Nat.lt_of_le_of_lt (Nat.succ_le_succ hlen) (by decide)) ?_
    rw [dedK_same nk]
    walk_at "go"
    refine cd_lenM rfl ?_
    walk_at "go"
    refine rets_d rfl ?_
    simpa using k

end
end
end T
end

section
set_option Elab.async false
set_option linter.all false
set_option maxRecDepth 100000
set_option maxHeartbeats 2000000
open PySem PySem.Spec PyProof.Rows L2 DL

local macro_rules | `(tactic| walk_at "vis") => `(tactic| first | exact Or.inl rfl | exact Or.inr (Or.inl rfl) | exact Or.inr (Or.inr rfl))
local macro_rules | `(tactic| walk_at "loc") => `(tactic| first | exact Or.inl rfl | exact Or.inr rfl)
local macro_rules | `(tactic| walk_at "side") => `(tactic| first | assumption | omega | decide)
local macro_rules | `(tactic| walk_at "callB") => `(tactic| first
  | ((with_reducible show DE _ _ (Expr.Call (Expr.Name (Str.ofString "len") _) _ _ _) _ _ _); refine de_callB (id := "len") rfl (by assumption) (by decide +kernel) (by decide) (by decide) rfl rfl ?_)
  | ((with_reducible show DE _ _ (Expr.Call (Expr.Name (Str.ofString "max") _) _ _ _) _ _ _); refine de_callB (id := "max") rfl (by assumption) (by decide +kernel) (by decide) (by decide) rfl rfl ?_)
  | ((with_reducible show DE _ _ (Expr.Call (Expr.Name (Str.ofString "min") _) _ _ _) _ _ _); refine de_callB (id := "min") rfl (by assumption) (by decide +kernel) (by decide) (by decide) rfl rfl ?_)
  | ((with_reducible show DE _ _ (Expr.Call (Expr.Name (Str.ofString "abs") _) _ _ _) _ _ _); refine de_callB (id := "abs") rfl (by assumption) (by decide +kernel) (by decide) (by decide) rfl rfl ?_)
  | ((with_reducible show DE _ _ (Expr.Call (Expr.Name (Str.ofString "repr") _) _ _ _) _ _ _); refine de_callB (id := "repr") rfl (by assumption) (by decide +kernel) (by decide) (by decide) rfl rfl ?_)
  | ((with_reducible show DE _ _ (Expr.Call (Expr.Name (Str.ofString "isinstance") _) _ _ _) _ _ _); refine de_callB (id := "isinstance") rfl (by assumption) (by decide +kernel) (by decide) (by decide) rfl rfl ?_)
  | ((with_reducible show DE _ _ (Expr.Call (Expr.Name (Str.ofString "sorted") _) _ _ _) _ _ _); refine de_callB (id := "sorted") rfl (by assumption) (by decide +kernel) (by decide) (by decide) rfl rfl ?_)
  | ((with_reducible show DE _ _ (Expr.Call (Expr.Name (Str.ofString "all") _) _ _ _) _ _ _); refine de_callB (id := "all") rfl (by assumption) (by decide +kernel) (by decide) (by decide) rfl rfl ?_)
  | ((with_reducible show DE _ _ (Expr.Call (Expr.Name (Str.ofString "any") _) _ _ _) _ _ _); refine de_callB (id := "any") rfl (by assumption) (by decide +kernel) (by decide) (by decide) rfl rfl ?_)
  | ((with_reducible show DE _ _ (Expr.Call (Expr.Name (Str.ofString "sum") _) _ _ _) _ _ _); refine de_callB (id := "sum") rfl (by assumption) (by decide +kernel) (by decide) (by decide) rfl rfl ?_)
  | ((with_reducible show DE _ _ (Expr.Call (Expr.Name (Str.ofString "int") _) _ _ _) _ _ _); refine de_callTy (T := "int") rfl (by assumption) (by decide +kernel) (by decide) (by decide) rfl rfl ?_)
  | ((with_reducible show DE _ _ (Expr.Call (Expr.Name (Str.ofString "tuple") _) _ _ _) _ _ _); refine de_callTy (T := "tuple") rfl (by assumption) (by decide +kernel) (by decide) (by decide) rfl rfl ?_)
  | ((with_reducible show DE _ _ (Expr.Call (Expr.Name (Str.ofString "list") _) _ _ _) _ _ _); refine de_callTy (T := "list") rfl (by assumption) (by decide +kernel) (by decide) (by decide) rfl rfl ?_)
  | ((with_reducible show DE _ _ (Expr.Call (Expr.Name (Str.ofString "set") _) _ _ _) _ _ _); refine de_callTy (T := "set") rfl (by assumption) (by decide +kernel) (by decide) (by decide) rfl rfl ?_)
  | ((with_reducible show DE _ _ (Expr.Call (Expr.Name (Str.ofString "str") _) _ _ _) _ _ _); refine de_callTy (T := "str") rfl (by assumption) (by decide +kernel) (by decide) (by decide) rfl rfl ?_))
local macro_rules | `(tactic| walk_at "own") => `(tactic| refine de_own (by assumption) (by assumption) (by assumption) (by decide) rfl (by decide) rfl rfl ?_)
local macro_rules | `(tactic| walk_at "bname") => `(tactic| first
  | ((with_reducible show DE _ _ (Expr.Name (Str.ofString "LETTERS") _) _ _ _); refine de_glob (v := .str abc) rfl (by assumption) ⟨_, rfl⟩ (fun _ => .str _) ?_ (by decide))
  | ((with_reducible show DE _ _ (Expr.Name (Str.ofString "LONGEST_WORD") _) _ _ _); refine de_glob (v := .int 8) rfl (by assumption) ⟨_, rfl⟩ (fun _ => .int _) ?_ (by decide))
  | ((with_reducible show DE _ _ (Expr.Name (Str.ofString "MOST_STATES") _) _ _ _); refine de_glob (v := .int 5) rfl (by assumption) ⟨_, rfl⟩ (fun _ => .int _) ?_ (by decide))
  | ((with_reducible show DE _ _ (Expr.Name (Str.ofString "MOST_ARROWS") _) _ _ _); refine de_glob (v := .int 40) rfl (by assumption) ⟨_, rfl⟩ (fun _ => .int _) ?_ (by decide))
  | ((with_reducible show DE _ _ (Expr.Name (Str.ofString "int") _) _ _ _); refine de_bltn (v := .ty "int") rfl (by assumption) (by decide +kernel) rfl ?_ (by decide) (by decide))
  | ((with_reducible show DE _ _ (Expr.Name (Str.ofString "bool") _) _ _ _); refine de_bltn (v := .ty "bool") rfl (by assumption) (by decide +kernel) rfl ?_ (by decide) (by decide))
  | ((with_reducible show DE _ _ (Expr.Name (Str.ofString "str") _) _ _ _); refine de_bltn (v := .ty "str") rfl (by assumption) (by decide +kernel) rfl ?_ (by decide) (by decide))
  | ((with_reducible show DE _ _ (Expr.Name (Str.ofString "tuple") _) _ _ _); refine de_bltn (v := .ty "tuple") rfl (by assumption) (by decide +kernel) rfl ?_ (by decide) (by decide))
  | ((with_reducible show DE _ _ (Expr.Name (Str.ofString "list") _) _ _ _); refine de_bltn (v := .ty "list") rfl (by assumption) (by decide +kernel) rfl ?_ (by decide) (by decide)))
local macro_rules | `(tactic| walk_at "E") => `(tactic| ((with_reducible show DE _ _ _ _ _ _); first
  | ((with_reducible show DE _ _ (Expr.Name _ _) _ _ _); first | walk_at "name" | walk_at "bname")
  | refine de_int ?_ | refine de_str ?_ | refine de_bl ?_ | refine de_non ?_
  | ((with_reducible show DE _ _ (Expr.Subscript _ (Expr.Tuple _ _ _) _) _ _ _); refine de_dget (by assumption) ?_ (fun _ _ => rfl))
  | ((with_reducible show DE _ _ (Expr.Subscript _ (Expr.Slice _ _ _ _) _) _ _ _); first | refine de_revS ?_ | refine de_slice ?_)
  | refine de_ix ?_ (fun _ _ => rfl)
  | refine de_bin ?_ | refine de_cmp ?_ (by first | exact nomark _ | rfl) | refine de_chain ?_ rfl
  | refine de_one ?_ | refine de_neg ?_ | refine de_and ?_ | refine de_or ?_ | refine de_not ?_ | refine de_if ?_
  | refine de_tup ?_ | refine de_lstP (es := []) ?_ | refine de_lst ?_
  | ((with_reducible show DE _ _ (Expr.Call (Expr.Name _ _) _ _ _) _ _ _); first | walk_at "callB" | walk_at "own")
  | ((with_reducible show DE _ _ (Expr.Call (Expr.Attribute _ (Str.ofString "append") _) _ _ _) _ _ _); refine de_append ?_ rfl rfl rfl rfl rfl)
  | ((with_reducible show DE _ _ (Expr.Call (Expr.Attribute _ (Str.ofString "insert") _) _ _ _) _ _ _); refine de_insert ?_ rfl rfl rfl rfl rfl rfl)))
local macro_rules | `(tactic| walk_at "T") => `(tactic| ((with_reducible show DT _ _ _ _ _ _); first
  | ((with_reducible show DT _ _ (Expr.Compare (Expr.Tuple _ _ _) [CmpOp.In] _ _) _ _ _); refine dt_din (by assumption) ?_ rfl)
  | refine dt_cmp ?_ (by first | exact nomark _ | rfl) | refine dt_chain ?_ rfl | refine dt_not ?_ | refine dt_w (dw_and ?_) | refine dt_w (dw_or ?_) | refine dt_val ?_ (fun _ => rfl)))
local macro_rules | `(tactic| walk_at "W") => `(tactic| ((with_reducible show DW _ _ _ _ _ _); first
  | refine dw_and ?_ | refine dw_or ?_ | refine dw_and1 ?_ | refine dw_or1 ?_))
local macro_rules | `(tactic| walk_at "A") => `(tactic| ((with_reducible show DA _ _ _ _ _ _); first | refine da_nil ?_ | refine da_cons ?_ rfl))
local macro_rules | `(tactic| walk_at "O") => `(tactic| ((with_reducible show BD _ _ _ _ _ _ _ _); first
  | ((with_reducible show BD _ _ (binaryOp Operator.Add) (S.d (D.int _)) (S.d (D.int _)) _ _ _); refine bd_add ?_)
  | ((with_reducible show BD _ _ (binaryOp Operator.Add) (S.d (D.str _)) (S.d (D.str _)) _ _ _); refine bd_addS ?_ ?_)
  | ((with_reducible show BD _ _ (binaryOp Operator.Sub) (S.d (D.int _)) (S.d (D.int _)) _ _ _); refine bd_sub ?_)
  | ((with_reducible show BD _ _ (binaryOp Operator.Mod) (S.d (D.int _)) (S.d (D.int _)) _ _ _); refine bd_mod (by walk_at "side") ?_)
  | ((with_reducible show BD _ _ (binaryOp Operator.Mult) (S.d (D.int _)) (S.d (D.int _)) _ _ _); refine bd_mul ?_ ?_)
  | ((with_reducible show BD _ _ (binaryOp Operator.FloorDiv) (S.d (D.int _)) (S.d (D.int _)) _ _ _); refine bd_fdivW ?_ ?_)
  | ((with_reducible show BD _ _ (binaryOp Operator.Pow) (S.d (D.int _)) (S.d (D.int _)) _ _ _); refine bd_pow ?_ ?_)
  | ((with_reducible show BD _ _ (compareOp CmpOp.Lt) (S.d (D.int _)) (S.d (D.int _)) _ _ _); refine bd_lt ?_)
  | ((with_reducible show BD _ _ (compareOp CmpOp.LtE) (S.d (D.int _)) (S.d (D.int _)) _ _ _); refine bd_le ?_)
  | ((with_reducible show BD _ _ (compareOp CmpOp.Gt) (S.d (D.int _)) (S.d (D.int _)) _ _ _); refine bd_gt ?_)
  | ((with_reducible show BD _ _ (compareOp CmpOp.GtE) (S.d (D.int _)) (S.d (D.int _)) _ _ _); refine bd_ge ?_)
  | ((with_reducible show BD _ _ (compareOp CmpOp.Eq) (S.d (D.int _)) (S.d (D.int _)) _ _ _); refine bd_eqI ?_)
  | ((with_reducible show BD _ _ (compareOp CmpOp.NotEq) (S.d (D.int _)) (S.d (D.int _)) _ _ _); refine bd_neI ?_)
  | ((with_reducible show BD _ _ (compareOp CmpOp.Eq) (S.d (D.str _)) (S.d (D.str _)) _ _ _); refine bd_eqS ?_)
  | ((with_reducible show BD _ _ (compareOp CmpOp.NotEq) (S.d (D.str _)) (S.d (D.str _)) _ _ _); refine bd_neS ?_)))
local macro_rules | `(tactic| walk_at "C") => `(tactic| ((with_reducible show CD _ _ _ _ _ _ _); first
  | ((with_reducible show CD _ _ (Value.type "int") _ _ _ _); refine cd_int ?_)
  | ((with_reducible show CD _ _ (Value.builtin "abs") _ _ _ _); refine cd_abs ?_)
  | ((with_reducible show CD _ _ (Value.builtin "max") _ _ _ _); refine cd_max2 rfl ?_)
  | ((with_reducible show CD _ _ (Value.builtin "min") _ _ _ _); refine cd_min2 rfl ?_)
  | ((with_reducible show CD _ _ (Value.builtin "isinstance") _ _ _ _); refine cd_isiK (by first | rfl | assumption) (by first | decide | exact tyD_six (by assumption)) (by decide) (by decide) ?_)
  | ((with_reducible show CD _ _ (Value.builtin "len") _ _ _ _); first | refine cd_lenT ?_ | refine cd_lenS ?_ ?_ | refine cd_lenP rfl ?_ | refine cd_lenL rfl ?_)
  | ((with_reducible show CD _ _ (Value.type "tuple") _ _ _ _); first | refine cd_tupleT ?_ | refine cd_tuple rfl ?_)))
local macro_rules | `(tactic| walk_at "I") => `(tactic| ((with_reducible show ID _ _ _ _ _ _ _); first
  | refine id_lstP rfl rfl ?_ | refine id_tup rfl ?_ | refine id_lst rfl rfl ?_ | refine id_str ?_ ?_ ?_))
local macro_rules | `(tactic| walk_at "S") => `(tactic| ((with_reducible show DS _ _ _ _ _ _); first
  | ((with_reducible show DS _ _ (Stmt.Assign [Expr.Name _ _] _ _) _ _ _); walk_at "set")
  | refine ds_ret ?_ | refine ds_retN ?_ | refine ds_if ?_ | refine ds_expr ?_ rfl | refine ds_pass ?_ | refine ds_break ?_ | refine ds_continue ?_
  | ((with_reducible show DS _ _ (Stmt.Assign [Expr.Attribute _ _ _] _ _) _ _ _); refine ds_fld ?_ rfl)
  | ((with_reducible show DS _ _ (Stmt.Assign [Expr.Subscript _ (Expr.Tuple _ _ _) _] _ _) _ _ _); refine ds_dput (by assumption) ?_ rfl)
  | ((with_reducible show DS _ _ (Stmt.Assign [Expr.Subscript _ _ _] _ _) _ _ _); refine ds_setL ?_ (fun _ => rfl) rfl rfl rfl) | refine ds_asg ?_ rfl rfl rfl))
local macro_rules | `(tactic| walk_at "B") => `(tactic| ((with_reducible show DB _ _ _ _ _ _); first | refine db_cons ?_ | refine db_nil ?_))
local macro_rules | `(tactic| walk_at "G") => `(tactic| first
  | ((with_reducible show DG _ _ _ _ _ _ _); first | walk_at "gname" | refine dg_tup rfl rfl rfl rfl ?_)
  | ((with_reducible show DGs _ _ _ _ _ _ _); first | refine dgs_nil ?_ | refine dgs_cons ?_ rfl))
local macro_rules | `(tactic| walk_at "X") => `(tactic| first
  | ((with_reducible show ∃ n ss j i, S.p _ = S.p n ∧ _ ∧ _ ∧ _ ∧ _); refine ⟨_, _, _, _, rfl, rfl, rfl, rfl, ?_⟩)
  | ((with_reducible show ∃ n ss, S.p _ = S.p n ∧ _ ∧ _); refine ⟨_, _, rfl, rfl, ?_⟩)
  | ((with_reducible show ∃ n, S.d (D.int _) = S.d (D.int n) ∧ _ ∧ _ ∧ _); refine ⟨_, rfl, ?_, ?_, ?_⟩)
  | ((with_reducible show ∃ b, S.d (D.bl _) = S.d (D.bl b) ∧ _); refine ⟨_, rfl, ?_⟩)
  | ((with_reducible show ∃ b, S.d (D.int _) = S.d (D.int b) ∧ _); refine ⟨_, rfl, ?_⟩))
local macro_rules | `(tactic| walk_at "D") => `(tactic| ((with_reducible show DO _ _ _ _ _ _); first | refine do_none ?_ | refine do_some ?_))
local macro_rules | `(tactic| walk_at "step") => `(tactic| first | walk_at "E" | walk_at "O" | walk_at "I" | walk_at "A" | walk_at "C" | walk_at "B" | walk_at "S" | walk_at "T" | walk_at "W" | walk_at "G" | walk_at "D" | walk_at "X")
local macro_rules | `(tactic| walk_at "go") => `(tactic| repeat walk_at "step")
local macro_rules | `(tactic| walk_at "goE") => `(tactic| repeat (first | walk_at "E" | walk_at "O" | walk_at "I" | walk_at "A" | walk_at "C" | walk_at "T" | walk_at "W" | walk_at "G" | walk_at "D" | walk_at "X"))

namespace T
set_option pp.deepTerms false
set_option pp.deepTerms.threshold 3
section
variable {P : Program} {w : World} {K : PySem.W.Frag} {mg : Str → Option Value} {base : Heap}


abbrev Arr : Type := Int × Str × Int
abbrev arD (a : Arr) : D := .tup [.int a.1, .str a.2.1, .int a.2.2]
abbrev keyA (a : Arr) : List Key := [.inl a.1, .inr a.2.1]
abbrev entA (a : Arr) : List Key × D := (keyA a, .int a.2.2)
structure ArrsOk (n : Int) (as : List Arr) : Prop where
  st : ∀ a ∈ as, 0 ≤ a.1 ∧ a.1 < n
  wd : ∀ a ∈ as, wordB a.2.1 = true
  tg : ∀ a ∈ as, 0 ≤ a.2.2 ∧ a.2.2 < n
  nd : (as.map keyA).Nodup
  ln : as.length ≤ 40
theorem word_short {z : Str} (h : wordB z = true) : z.length ≤ 8 := by
  unfold wordB at h
  simp only [Bool.and_eq_true, decide_eq_true_eq] at h
  omega
def sdRA : Sd := fun ss cs Q => ∃ (n : Int) (as : List Arr), ss = [.d (.int n), .d (.tup (as.map arD))] ∧ ArrsOk n as ∧ cs = [] ∧ Q (.d (.dT (as.map entA))) []
theorem units1 {k : Nat} {A : Around} (r : Room k A) : A.units + 1 < cLine := by have := r.un; omega
theorem units3 {k : Nat} {A : Around} (r : Room k A) : A.units + 3 < cLine := by have := r.un; omega
theorem getT_none {as : List Arr} {k : List Key} (h : k ∉ as.map keyA) : getT (tabS (as.map entA)) k = none := by
  unfold getT tabS
  rw [Option.map_eq_none_iff, List.find?_eq_none]
  intro p hp
  rw [List.map_map, List.mem_map] at hp
  obtain ⟨a, ha, rfl⟩ := hp
  simp only [decide_eq_true_eq]
  exact fun e => h (e ▸ List.mem_map.mpr ⟨a, ha, rfl⟩)
theorem putT_new {as : List Arr} {a : Arr} (h : keyA a ∉ as.map keyA) : putT (tabS (as.map entA)) (keyA a) (.d (.int a.2.2)) = tabS ((as ++ [a]).map entA) := by
  unfold putT
  have e : ((tabS (as.map entA)).any fun p => decide (p.1 = keyA a)) = false := by
    rw [List.any_eq_false]
    intro p hp
    unfold tabS at hp
    rw [List.map_map, List.mem_map] at hp
    obtain ⟨b, hb, rfl⟩ := hp
    simp only [decide_eq_true_eq]
    exact fun e => h (e ▸ List.mem_map.mpr ⟨b, hb, rfl⟩)
  rw [e]
  simp [tabS]

abbrev sRA : Stmt := top 29
theorem scRA : FnScope ["size", "arrows", "targets", "index", "arrow", "state", "sign", "target"] ["size", "arrows"] (defScope sRA) := ⟨rfl, rfl, rfl, by decide +kernel, rfl, by decide +kernel, by decide +kernel⟩
section
local macro_rules | `(tactic| walk_at "name") => `(tactic| first
  | ((with_reducible show DE _ _ (Expr.Name (Str.ofString "size") _) _ _ _); refine de_name (i := 0) rfl (by walk_at "vis") rfl ?_ (by decide) (by decide))
  | ((with_reducible show DE _ _ (Expr.Name (Str.ofString "arrows") _) _ _ _); refine de_name (i := 1) rfl (by walk_at "vis") rfl ?_ (by decide) (by decide))
  | ((with_reducible show DE _ _ (Expr.Name (Str.ofString "targets") _) _ _ _); refine de_name (i := 2) rfl (by walk_at "vis") rfl ?_ (by decide) (by decide))
  | ((with_reducible show DE _ _ (Expr.Name (Str.ofString "index") _) _ _ _); refine de_name (i := 3) rfl (by walk_at "vis") rfl ?_ (by decide) (by decide))
  | ((with_reducible show DE _ _ (Expr.Name (Str.ofString "arrow") _) _ _ _); refine de_name (i := 4) rfl (by walk_at "vis") rfl ?_ (by decide) (by decide))
  | ((with_reducible show DE _ _ (Expr.Name (Str.ofString "state") _) _ _ _); refine de_name (i := 5) rfl (by walk_at "vis") rfl ?_ (by decide) (by decide))
  | ((with_reducible show DE _ _ (Expr.Name (Str.ofString "sign") _) _ _ _); refine de_name (i := 6) rfl (by walk_at "vis") rfl ?_ (by decide) (by decide))
  | ((with_reducible show DE _ _ (Expr.Name (Str.ofString "target") _) _ _ _); refine de_name (i := 7) rfl (by walk_at "vis") rfl ?_ (by decide) (by decide)))
local macro_rules | `(tactic| walk_at "set") => `(tactic| first
  | ((with_reducible show DS _ _ (Stmt.Assign [Expr.Name (Str.ofString "size") _] _ _) _ _ _); refine ds_set (i := 0) ?_ (by assumption) rfl (by walk_at "loc") rfl (by walk_at "loc"))
  | ((with_reducible show DS _ _ (Stmt.Assign [Expr.Name (Str.ofString "arrows") _] _ _) _ _ _); refine ds_set (i := 1) ?_ (by assumption) rfl (by walk_at "loc") rfl (by walk_at "loc"))
  | ((with_reducible show DS _ _ (Stmt.Assign [Expr.Name (Str.ofString "targets") _] _ _) _ _ _); refine ds_set (i := 2) ?_ (by assumption) rfl (by walk_at "loc") rfl (by walk_at "loc"))
  | ((with_reducible show DS _ _ (Stmt.Assign [Expr.Name (Str.ofString "index") _] _ _) _ _ _); refine ds_set (i := 3) ?_ (by assumption) rfl (by walk_at "loc") rfl (by walk_at "loc"))
  | ((with_reducible show DS _ _ (Stmt.Assign [Expr.Name (Str.ofString "arrow") _] _ _) _ _ _); refine ds_set (i := 4) ?_ (by assumption) rfl (by walk_at "loc") rfl (by walk_at "loc"))
  | ((with_reducible show DS _ _ (Stmt.Assign [Expr.Name (Str.ofString "state") _] _ _) _ _ _); refine ds_set (i := 5) ?_ (by assumption) rfl (by walk_at "loc") rfl (by walk_at "loc"))
  | ((with_reducible show DS _ _ (Stmt.Assign [Expr.Name (Str.ofString "sign") _] _ _) _ _ _); refine ds_set (i := 6) ?_ (by assumption) rfl (by walk_at "loc") rfl (by walk_at "loc"))
  | ((with_reducible show DS _ _ (Stmt.Assign [Expr.Name (Str.ofString "target") _] _ _) _ _ _); refine ds_set (i := 7) ?_ (by assumption) rfl (by walk_at "loc") rfl (by walk_at "loc")))
local macro_rules | `(tactic| walk_at "gname") => `(tactic| first
  | ((with_reducible show DG _ _ (Expr.Name (Str.ofString "size") _) _ _ _ _); refine dg_name (i := 0) (by assumption) rfl (by walk_at "loc") (by walk_at "loc") ?_)
  | ((with_reducible show DG _ _ (Expr.Name (Str.ofString "arrows") _) _ _ _ _); refine dg_name (i := 1) (by assumption) rfl (by walk_at "loc") (by walk_at "loc") ?_)
  | ((with_reducible show DG _ _ (Expr.Name (Str.ofString "targets") _) _ _ _ _); refine dg_name (i := 2) (by assumption) rfl (by walk_at "loc") (by walk_at "loc") ?_)
  | ((with_reducible show DG _ _ (Expr.Name (Str.ofString "index") _) _ _ _ _); refine dg_name (i := 3) (by assumption) rfl (by walk_at "loc") (by walk_at "loc") ?_)
  | ((with_reducible show DG _ _ (Expr.Name (Str.ofString "arrow") _) _ _ _ _); refine dg_name (i := 4) (by assumption) rfl (by walk_at "loc") (by walk_at "loc") ?_)
  | ((with_reducible show DG _ _ (Expr.Name (Str.ofString "state") _) _ _ _ _); refine dg_name (i := 5) (by assumption) rfl (by walk_at "loc") (by walk_at "loc") ?_)
  | ((with_reducible show DG _ _ (Expr.Name (Str.ofString "sign") _) _ _ _ _); refine dg_name (i := 6) (by assumption) rfl (by walk_at "loc") (by walk_at "loc") ?_)
  | ((with_reducible show DG _ _ (Expr.Name (Str.ofString "target") _) _ _ _ _); refine dg_name (i := 7) (by assumption) rfl (by walk_at "loc") (by walk_at "loc") ?_))

theorem ok_RA {f : Addr} {fd : FuncData} (FF : Fun K "_read_arrows" "_read_arrows" sRA f fd) (m1 : mg "isinstance" = none) (m2 : mg "tuple" = none) (m3 : mg "enumerate" = none) {t1 : Tok} (c1 : mg "MOST_ARROWS" = some (.int 40 t1)) (c2 : Cal P w K mg base 3 "_is_arrow" ["size", "value"] sdAR) : FnG P w K mg base CX0 4 f fd ["size", "arrows"] (spOf K 2 sdRA) := by
  have nd := scRA.nd
  refine fn_ok FF scRA ?_
  intro cdv A outer s H E F ss cs Q hr hgu hsd hl hθ
  obtain ⟨n, as, rfl, ok, rfl, k⟩ := hsd
  have hu := units1 hr
  walk_at "go"
  refine ⟨fun h => absurd h (by decide), fun _ => ?_⟩
  walk_at "go"
  refine de_dnew ?_
  walk_at "go"
  refine ds_forEnumT PassesOwn.never rfl rfl m3 rfl (fun _ => rfl) ?_
  walk_at "go"
  refine ⟨_, rfl, fun i ρ M => ∃ a b c d e, ρ = [some (.d (.int n)), some (.d (.tup (as.map arD))), some (.p 0), a, b, c, d, e] ∧ M = [.dT (tabS ((as.take i).map entA))], ⟨_, _, _, _, _, rfl, rfl⟩, ?_, ?_⟩
  · rintro i d ρ' M' hd ⟨x1, x2, x3, x4, x5, rfl, rfl⟩
    rw [List.getElem?_map] at hd
    obtain ⟨a, ha, rfl⟩ := Option.map_eq_some_iff.mp hd
    have mem := List.mem_of_getElem? ha
    have hi : i < as.length := (List.getElem?_eq_some_iff.mp ha).1
    have hw := word_short (ok.wd a mem)
    have hln := ok.ln
    have s0 := ok.st a mem
    have s2 := ok.tg a mem
    walk_at "go"
    refine ⟨fun h => absurd (of_decide_eq_true h) (by omega), fun _ => ?_⟩
    walk_at "go"
    refine spd0' rfl rfl ⟨n, _, _, _, rfl, by rw [sizeLine_eq]; omega, rfl, got_d ?_⟩
    have e : (isSt n (.int a.1) && wordB a.2.1 && isSt n (.int a.2.2)) = true := by
      simp [isSt, ok.wd a mem, s0, s2]
    rw [e]
    refine ⟨_, rfl, ?_⟩
    refine ⟨fun h => absurd h (by decide), fun _ => ?_⟩
    walk_at "go"
    have new : keyA a ∉ (as.take i).map keyA := fun m => by
      have q := ok.nd
      rw [List.Nodup, List.pairwise_iff_getElem] at q
      obtain ⟨b, hb, eb⟩ := List.mem_map.mp m
      obtain ⟨j, hj, ej⟩ := List.mem_take_iff_getElem.mp hb
      have hja : j < as.length := by omega
      have ea : as[i] = a := (List.getElem?_eq_some_iff.mp ha).2
      refine q j i (by simpa using hja) (by simpa using hi) (by omega) ?_
      rw [List.getElem_map, List.getElem_map, ea, ← eb]
      congr 1
    refine ⟨keyA a, ⟨rfl, show 2 ≤ sizeLine by decide⟩, ?_⟩
    walk_at "go"
    refine ⟨_, rfl, ?_⟩
    rw [getT_none new]
    refine ⟨fun h => absurd h (by decide), fun _ => ?_⟩
    walk_at "go"
    refine ⟨keyA a, 0, _, ⟨rfl, show 2 ≤ sizeLine by decide⟩, rfl, rfl, ?_, ?_⟩
    · rw [sizeLine_eq]; simp [tabS]; omega
    · refine db_nil ?_
      refine ⟨_, _, _, _, _, rfl, ?_⟩
      rw [putT_new new, List.take_succ, ha]
      rfl
  · rintro ρ' M' ⟨x1, x2, x3, x4, x5, rfl, rfl⟩
    rw [List.length_map, List.take_length]
    refine db_freezeT (i := 2) (n := 0) rfl rfl (by rw [hθ]; exact Nat.le_refl 0) ?_
    walk_at "go"
    exact rets_d rfl k

end
end
end T
end

section
set_option Elab.async false
set_option linter.all false
set_option maxRecDepth 100000
set_option maxHeartbeats 2000000
open PySem PySem.Spec PyProof.Rows L2 DL

local macro_rules | `(tactic| walk_at "vis") => `(tactic| first | exact Or.inl rfl | exact Or.inr (Or.inl rfl) | exact Or.inr (Or.inr rfl))
local macro_rules | `(tactic| walk_at "loc") => `(tactic| first | exact Or.inl rfl | exact Or.inr rfl)
local macro_rules | `(tactic| walk_at "side") => `(tactic| first | assumption | omega | decide)
local macro_rules | `(tactic| walk_at "callB") => `(tactic| first
  | ((with_reducible show DE _ _ (Expr.Call (Expr.Name (Str.ofString "len") _) _ _ _) _ _ _); refine de_callB (id := "len") rfl (by assumption) (by decide +kernel) (by decide) (by decide) rfl rfl ?_)
  | ((with_reducible show DE _ _ (Expr.Call (Expr.Name (Str.ofString "max") _) _ _ _) _ _ _); refine de_callB (id := "max") rfl (by assumption) (by decide +kernel) (by decide) (by decide) rfl rfl ?_)
  | ((with_reducible show DE _ _ (Expr.Call (Expr.Name (Str.ofString "min") _) _ _ _) _ _ _); refine de_callB (id := "min") rfl (by assumption) (by decide +kernel) (by decide) (by decide) rfl rfl ?_)
  | ((with_reducible show DE _ _ (Expr.Call (Expr.Name (Str.ofString "abs") _) _ _ _) _ _ _); refine de_callB (id := "abs") rfl (by assumption) (by decide +kernel) (by decide) (by decide) rfl rfl ?_)
  | ((with_reducible show DE _ _ (Expr.Call (Expr.Name (Str.ofString "repr") _) _ _ _) _ _ _); refine de_callB (id := "repr") rfl (by assumption) (by decide +kernel) (by decide) (by decide) rfl rfl ?_)
  | ((with_reducible show DE _ _ (Expr.Call (Expr.Name (Str.ofString "isinstance") _) _ _ _) _ _ _); refine de_callB (id := "isinstance") rfl (by assumption) (by decide +kernel) (by decide) (by decide) rfl rfl ?_)
  | ((with_reducible show DE _ _ (Expr.Call (Expr.Name (Str.ofString "sorted") _) _ _ _) _ _ _); refine de_callB (id := "sorted") rfl (by assumption) (by decide +kernel) (by decide) (by decide) rfl rfl ?_)
  | ((with_reducible show DE _ _ (Expr.Call (Expr.Name (Str.ofString "all") _) _ _ _) _ _ _); refine de_callB (id := "all") rfl (by assumption) (by decide +kernel) (by decide) (by decide) rfl rfl ?_)
  | ((with_reducible show DE _ _ (Expr.Call (Expr.Name (Str.ofString "any") _) _ _ _) _ _ _); refine de_callB (id := "any") rfl (by assumption) (by decide +kernel) (by decide) (by decide) rfl rfl ?_)
  | ((with_reducible show DE _ _ (Expr.Call (Expr.Name (Str.ofString "sum") _) _ _ _) _ _ _); refine de_callB (id := "sum") rfl (by assumption) (by decide +kernel) (by decide) (by decide) rfl rfl ?_)
  | ((with_reducible show DE _ _ (Expr.Call (Expr.Name (Str.ofString "int") _) _ _ _) _ _ _); refine de_callTy (T := "int") rfl (by assumption) (by decide +kernel) (by decide) (by decide) rfl rfl ?_)
  | ((with_reducible show DE _ _ (Expr.Call (Expr.Name (Str.ofString "tuple") _) _ _ _) _ _ _); refine de_callTy (T := "tuple") rfl (by assumption) (by decide +kernel) (by decide) (by decide) rfl rfl ?_)
  | ((with_reducible show DE _ _ (Expr.Call (Expr.Name (Str.ofString "list") _) _ _ _) _ _ _); refine de_callTy (T := "list") rfl (by assumption) (by decide +kernel) (by decide) (by decide) rfl rfl ?_)
  | ((with_reducible show DE _ _ (Expr.Call (Expr.Name (Str.ofString "set") _) _ _ _) _ _ _); refine de_callTy (T := "set") rfl (by assumption) (by decide +kernel) (by decide) (by decide) rfl rfl ?_)
  | ((with_reducible show DE _ _ (Expr.Call (Expr.Name (Str.ofString "str") _) _ _ _) _ _ _); refine de_callTy (T := "str") rfl (by assumption) (by decide +kernel) (by decide) (by decide) rfl rfl ?_))
local macro_rules | `(tactic| walk_at "own") => `(tactic| refine de_own (by assumption) (by assumption) (by assumption) (by decide) rfl (by decide) rfl rfl ?_)
local macro_rules | `(tactic| walk_at "bname") => `(tactic| first
  | ((with_reducible show DE _ _ (Expr.Name (Str.ofString "LETTERS") _) _ _ _); refine de_glob (v := .str abc) rfl (by assumption) ⟨_, rfl⟩ (fun _ => .str _) ?_ (by decide))
  | ((with_reducible show DE _ _ (Expr.Name (Str.ofString "LONGEST_WORD") _) _ _ _); refine de_glob (v := .int 8) rfl (by assumption) ⟨_, rfl⟩ (fun _ => .int _) ?_ (by decide))
  | ((with_reducible show DE _ _ (Expr.Name (Str.ofString "MOST_STATES") _) _ _ _); refine de_glob (v := .int 5) rfl (by assumption) ⟨_, rfl⟩ (fun _ => .int _) ?_ (by decide))
  | ((with_reducible show DE _ _ (Expr.Name (Str.ofString "MOST_ARROWS") _) _ _ _); refine de_glob (v := .int 40) rfl (by assumption) ⟨_, rfl⟩ (fun _ => .int _) ?_ (by decide))
  | ((with_reducible show DE _ _ (Expr.Name (Str.ofString "int") _) _ _ _); refine de_bltn (v := .ty "int") rfl (by assumption) (by decide +kernel) rfl ?_ (by decide) (by decide))
  | ((with_reducible show DE _ _ (Expr.Name (Str.ofString "bool") _) _ _ _); refine de_bltn (v := .ty "bool") rfl (by assumption) (by decide +kernel) rfl ?_ (by decide) (by decide))
  | ((with_reducible show DE _ _ (Expr.Name (Str.ofString "str") _) _ _ _); refine de_bltn (v := .ty "str") rfl (by assumption) (by decide +kernel) rfl ?_ (by decide) (by decide))
  | ((with_reducible show DE _ _ (Expr.Name (Str.ofString "tuple") _) _ _ _); refine de_bltn (v := .ty "tuple") rfl (by assumption) (by decide +kernel) rfl ?_ (by decide) (by decide))
  | ((with_reducible show DE _ _ (Expr.Name (Str.ofString "list") _) _ _ _); refine de_bltn (v := .ty "list") rfl (by assumption) (by decide +kernel) rfl ?_ (by decide) (by decide)))
local macro_rules | `(tactic| walk_at "E") => `(tactic| ((with_reducible show DE _ _ _ _ _ _); first
  | ((with_reducible show DE _ _ (Expr.Name _ _) _ _ _); first | walk_at "name" | walk_at "bname")
  | refine de_int ?_ | refine de_str ?_ | refine de_bl ?_ | refine de_non ?_
  | ((with_reducible show DE _ _ (Expr.Subscript _ (Expr.Tuple _ _ _) _) _ _ _); refine de_dget (by assumption) ?_ (fun _ _ => rfl))
  | ((with_reducible show DE _ _ (Expr.Subscript _ (Expr.Slice _ _ _ _) _) _ _ _); first | refine de_revS ?_ | refine de_slice ?_)
  | refine de_ix ?_ (fun _ _ => rfl)
  | refine de_bin ?_ | refine de_cmp ?_ (by first | exact nomark _ | rfl) | refine de_chain ?_ rfl
  | refine de_one ?_ | refine de_neg ?_ | refine de_and ?_ | refine de_or ?_ | refine de_not ?_ | refine de_if ?_
  | refine de_tup ?_ | refine de_lstP (es := []) ?_ | refine de_lst ?_
  | ((with_reducible show DE _ _ (Expr.Call (Expr.Name _ _) _ _ _) _ _ _); first | walk_at "callB" | walk_at "own")
  | ((with_reducible show DE _ _ (Expr.Call (Expr.Attribute _ (Str.ofString "append") _) _ _ _) _ _ _); refine de_append ?_ rfl rfl rfl rfl rfl)
  | ((with_reducible show DE _ _ (Expr.Call (Expr.Attribute _ (Str.ofString "insert") _) _ _ _) _ _ _); refine de_insert ?_ rfl rfl rfl rfl rfl rfl)))
local macro_rules | `(tactic| walk_at "T") => `(tactic| ((with_reducible show DT _ _ _ _ _ _); first
  | ((with_reducible show DT _ _ (Expr.Compare (Expr.Tuple _ _ _) [CmpOp.In] _ _) _ _ _); refine dt_din (by assumption) ?_ rfl)
  | refine dt_cmp ?_ (by first | exact nomark _ | rfl) | refine dt_chain ?_ rfl | refine dt_not ?_ | refine dt_w (dw_and ?_) | refine dt_w (dw_or ?_) | refine dt_val ?_ (fun _ => rfl)))
local macro_rules | `(tactic| walk_at "W") => `(tactic| ((with_reducible show DW _ _ _ _ _ _); first
  | refine dw_and ?_ | refine dw_or ?_ | refine dw_and1 ?_ | refine dw_or1 ?_))
local macro_rules | `(tactic| walk_at "A") => `(tactic| ((with_reducible show DA _ _ _ _ _ _); first | refine da_nil ?_ | refine da_cons ?_ rfl))
local macro_rules | `(tactic| walk_at "O") => `(tactic| ((with_reducible show BD _ _ _ _ _ _ _ _); first
  | ((with_reducible show BD _ _ (binaryOp Operator.Add) (S.d (D.int _)) (S.d (D.int _)) _ _ _); refine bd_add ?_)
  | ((with_reducible show BD _ _ (binaryOp Operator.Add) (S.d (D.str _)) (S.d (D.str _)) _ _ _); refine bd_addS ?_ ?_)
  | ((with_reducible show BD _ _ (binaryOp Operator.Sub) (S.d (D.int _)) (S.d (D.int _)) _ _ _); refine bd_sub ?_)
  | ((with_reducible show BD _ _ (binaryOp Operator.Mod) (S.d (D.int _)) (S.d (D.int _)) _ _ _); refine bd_mod (by walk_at "side") ?_)
  | ((with_reducible show BD _ _ (binaryOp Operator.Mult) (S.d (D.int _)) (S.d (D.int _)) _ _ _); refine bd_mul ?_ ?_)
  | ((with_reducible show BD _ _ (binaryOp Operator.FloorDiv) (S.d (D.int _)) (S.d (D.int _)) _ _ _); refine bd_fdivW ?_ ?_)
  | ((with_reducible show BD _ _ (binaryOp Operator.Pow) (S.d (D.int _)) (S.d (D.int _)) _ _ _); refine bd_pow ?_ ?_)
  | ((with_reducible show BD _ _ (compareOp CmpOp.Lt) (S.d (D.int _)) (S.d (D.int _)) _ _ _); refine bd_lt ?_)
  | ((with_reducible show BD _ _ (compareOp CmpOp.LtE) (S.d (D.int _)) (S.d (D.int _)) _ _ _); refine bd_le ?_)
  | ((with_reducible show BD _ _ (compareOp CmpOp.Gt) (S.d (D.int _)) (S.d (D.int _)) _ _ _); refine bd_gt ?_)
  | ((with_reducible show BD _ _ (compareOp CmpOp.GtE) (S.d (D.int _)) (S.d (D.int _)) _ _ _); refine bd_ge ?_)
  | ((with_reducible show BD _ _ (compareOp CmpOp.Eq) (S.d (D.int _)) (S.d (D.int _)) _ _ _); refine bd_eqI ?_)
  | ((with_reducible show BD _ _ (compareOp CmpOp.NotEq) (S.d (D.int _)) (S.d (D.int _)) _ _ _); refine bd_neI ?_)
  | ((with_reducible show BD _ _ (compareOp CmpOp.Eq) (S.d (D.str _)) (S.d (D.str _)) _ _ _); refine bd_eqS ?_)
  | ((with_reducible show BD _ _ (compareOp CmpOp.NotEq) (S.d (D.str _)) (S.d (D.str _)) _ _ _); refine bd_neS ?_)
  | ((with_reducible show BD _ _ (compareOp CmpOp.Is) _ (S.d D.non) _ _ _); refine bd_isN (by first | (intro y h; cases h) | assumption) ?_)
  | ((with_reducible show BD _ _ (compareOp CmpOp.IsNot) _ (S.d D.non) _ _ _); refine bd_notN (by first | (intro y h; cases h) | assumption) ?_)))
local macro_rules | `(tactic| walk_at "C") => `(tactic| ((with_reducible show CD _ _ _ _ _ _ _); first
  | ((with_reducible show CD _ _ (Value.type "int") _ _ _ _); refine cd_int ?_)
  | ((with_reducible show CD _ _ (Value.builtin "abs") _ _ _ _); refine cd_abs ?_)
  | ((with_reducible show CD _ _ (Value.builtin "max") _ _ _ _); refine cd_max2 rfl ?_)
  | ((with_reducible show CD _ _ (Value.builtin "min") _ _ _ _); refine cd_min2 rfl ?_)
  | ((with_reducible show CD _ _ (Value.builtin "isinstance") _ _ _ _); refine cd_isiK (by first | rfl | assumption) (by first | decide | exact tyD_six (by assumption)) (by decide) (by decide) ?_)
  | ((with_reducible show CD _ _ (Value.builtin "len") _ _ _ _); first | refine cd_lenT ?_ | refine cd_lenS ?_ ?_ | refine cd_lenP rfl ?_ | refine cd_lenL rfl ?_)
  | ((with_reducible show CD _ _ (Value.type "tuple") _ _ _ _); first | refine cd_tupleT ?_ | refine cd_tuple rfl ?_)))
local macro_rules | `(tactic| walk_at "I") => `(tactic| ((with_reducible show ID _ _ _ _ _ _ _); first
  | refine id_lstP rfl rfl ?_ | refine id_tup rfl ?_ | refine id_lst rfl rfl ?_ | refine id_str ?_ ?_ ?_))
local macro_rules | `(tactic| walk_at "S") => `(tactic| ((with_reducible show DS _ _ _ _ _ _); first
  | ((with_reducible show DS _ _ (Stmt.Assign [Expr.Name _ _] _ _) _ _ _); walk_at "set")
  | refine ds_ret ?_ | refine ds_retN ?_ | refine ds_if ?_ | refine ds_expr ?_ rfl | refine ds_pass ?_ | refine ds_break ?_ | refine ds_continue ?_
  | ((with_reducible show DS _ _ (Stmt.Assign [Expr.Attribute _ _ _] _ _) _ _ _); refine ds_fld ?_ rfl)
  | ((with_reducible show DS _ _ (Stmt.Assign [Expr.Subscript _ (Expr.Tuple _ _ _) _] _ _) _ _ _); refine ds_dput (by assumption) ?_ rfl)
  | ((with_reducible show DS _ _ (Stmt.Assign [Expr.Subscript _ _ _] _ _) _ _ _); refine ds_setL ?_ (fun _ => rfl) rfl rfl rfl) | refine ds_asg ?_ rfl rfl rfl))
local macro_rules | `(tactic| walk_at "B") => `(tactic| ((with_reducible show DB _ _ _ _ _ _); first | refine db_cons ?_ | refine db_nil ?_))
local macro_rules | `(tactic| walk_at "G") => `(tactic| first
  | ((with_reducible show DG _ _ _ _ _ _ _); first | walk_at "gname" | refine dg_tup rfl rfl rfl rfl ?_)
  | ((with_reducible show DGs _ _ _ _ _ _ _); first | refine dgs_nil ?_ | refine dgs_cons ?_ rfl))
local macro_rules | `(tactic| walk_at "X") => `(tactic| first
  | ((with_reducible show ∃ n ss j i, S.p _ = S.p n ∧ _ ∧ _ ∧ _ ∧ _); refine ⟨_, _, _, _, rfl, rfl, rfl, rfl, ?_⟩)
  | ((with_reducible show ∃ n ss, S.p _ = S.p n ∧ _ ∧ _); refine ⟨_, _, rfl, rfl, ?_⟩)
  | ((with_reducible show ∃ n, S.d (D.int _) = S.d (D.int n) ∧ _ ∧ _ ∧ _); refine ⟨_, rfl, ?_, ?_, ?_⟩)
  | ((with_reducible show ∃ b, S.d (D.bl _) = S.d (D.bl b) ∧ _); refine ⟨_, rfl, ?_⟩)
  | ((with_reducible show ∃ b, S.d (D.int _) = S.d (D.int b) ∧ _); refine ⟨_, rfl, ?_⟩))
local macro_rules | `(tactic| walk_at "L") => `(tactic| ((with_reducible show LD _ _ _ _ _ _ _ _); first
  | ((with_reducible show LD _ _ (S.d (D.tup _)) _ _ _ _ _); refine ld_tup ?_)))
local macro_rules | `(tactic| walk_at "D") => `(tactic| ((with_reducible show DO _ _ _ _ _ _); first | refine do_none ?_ | refine do_some ?_))
local macro_rules | `(tactic| walk_at "step") => `(tactic| first | walk_at "E" | walk_at "O" | walk_at "I" | walk_at "A" | walk_at "C" | walk_at "B" | walk_at "S" | walk_at "T" | walk_at "W" | walk_at "G" | walk_at "D" | walk_at "L" | walk_at "X")
local macro_rules | `(tactic| walk_at "go") => `(tactic| repeat walk_at "step")
local macro_rules | `(tactic| walk_at "goE") => `(tactic| repeat (first | walk_at "E" | walk_at "O" | walk_at "I" | walk_at "A" | walk_at "C" | walk_at "T" | walk_at "W" | walk_at "G" | walk_at "D" | walk_at "L" | walk_at "X"))

namespace T
set_option pp.deepTerms false
set_option pp.deepTerms.threshold 3
section
variable {P : Program} {w : World} {K : PySem.W.Frag} {mg : Str → Option Value} {base : Heap}


/-! ### counting: sums over arrows -/
def back (as : List Arr) (f : Int → Int) (q : Int) : Int := (as.map fun a => if a.1 = q then f a.2.2 else 0).sum
def fwd (as : List Arr) (f : Int → Int) (t : Int) : Int := (as.map fun a => if a.2.2 = t then f a.1 else 0).sum
def ind (es : List Int) (q : Int) : Int := if q ∈ es then 1 else 0
def bws (as : List Arr) (es : List Int) : Nat → Int → Int
  | 0 => ind es
  | k + 1 => back as (bws as es k)
def fws (as : List Arr) : Nat → Int → Int
  | 0 => fun q => if q = 0 then 1 else 0
  | k + 1 => fwd as (fws as k)
def vecI (m : Int) (f : Int → Int) : List Int := (List.range m.toNat).map fun i => f (i : Nat)
def dot (m : Nat) (u v : Int → Int) : Int := ((List.range m).map fun i => u (i : Nat) * v (i : Nat)).sum
theorem sum_add {α : Type} (l : List α) (f g : α → Int) : (l.map fun x => f x + g x).sum = (l.map f).sum + (l.map g).sum := by
  induction l with
  | nil => rfl
  | cons x l ih => simp only [List.map_cons, List.sum_cons, ih]; omega
theorem sum_zero {α : Type} (l : List α) : (l.map fun _ => (0 : Int)).sum = 0 := by
  induction l with
  | nil => rfl
  | cons x l ih => simp only [List.map_cons, List.sum_cons, ih]; omega
theorem dot_add (m : Nat) (u u2 v : Int → Int) : dot m (fun i => u i + u2 i) v = dot m u v + dot m u2 v := by
  unfold dot
  rw [← sum_add]
  congr 1
  exact List.map_congr_left fun i _ => Int.add_mul _ _ _
theorem dot_comm (m : Nat) (u v : Int → Int) : dot m u v = dot m v u := by
  unfold dot
  congr 1
  exact List.map_congr_left fun i _ => Int.mul_comm _ _
theorem dot_unit {m : Nat} {a : Int} (h0 : 0 ≤ a) (h1 : a < m) (x : Int) (v : Int → Int) : dot m (fun i => if a = i then x else 0) v = x * v a := by
  induction m with
  | zero => omega
  | succ m ih =>
    have ih : a < m → ((List.range m).map fun i : Nat => (if a = (i : Int) then x else 0) * v (i : Nat)).sum = x * v a := ih
    show ((List.range (m + 1)).map fun i : Nat => (if a = (i : Int) then x else 0) * v (i : Nat)).sum = x * v a
    rw [List.range_succ, List.map_append, List.sum_append, List.map_cons, List.map_nil, List.sum_cons, List.sum_nil]
    by_cases h : a = (m : Int)
    · have z : ((List.range m).map fun i => (if a = ((i : Nat) : Int) then x else 0) * v (i : Nat)).sum = 0 := by
        refine Eq.trans (congrArg List.sum (List.map_congr_left fun i hi => ?_)) (sum_zero (List.range m))
        have := List.mem_range.mp hi
        rw [if_neg (by omega), Int.zero_mul]
      rw [z, if_pos h, h]
      omega
    · rw [ih (by omega), if_neg h]
      omega
theorem dot_zero (m : Nat) (v : Int → Int) : dot m (fun _ => 0) v = 0 := by
  unfold dot
  exact Eq.trans (congrArg List.sum (List.map_congr_left fun i _ => by simp)) (sum_zero (List.range m))
theorem dot_add2 (m : Nat) (u v w : Int → Int) : dot m u (fun i => v i + w i) = dot m u v + dot m u w := by
  rw [dot_comm m u (fun i => v i + w i), dot_add, dot_comm m v, dot_comm m w]
theorem dot_unit2 {m : Nat} {a : Int} (h0 : 0 ≤ a) (h1 : a < m) (x : Int) (u : Int → Int) : dot m u (fun i => if a = i then x else 0) = u a * x := by
  rw [dot_comm, dot_unit h0 h1, Int.mul_comm]
theorem dot_fwd {m : Int} (v u : Int → Int) : ∀ {as : List Arr}, (∀ a ∈ as, 0 ≤ a.1 ∧ a.1 < m) → (∀ a ∈ as, 0 ≤ a.2.2 ∧ a.2.2 < m) → dot m.toNat (fwd as u) v = dot m.toNat u (back as v)
  | [], _, _ => by
    rw [show fwd [] u = fun _ => 0 from rfl, show back [] v = fun _ => 0 from rfl, dot_zero, dot_comm, dot_zero]
  | a :: as, h1, h2 => by
    have ih := dot_fwd v u (as := as) (fun b m => h1 b (List.mem_cons_of_mem _ m)) fun b m => h2 b (List.mem_cons_of_mem _ m)
    have s := h1 a List.mem_cons_self
    have t := h2 a List.mem_cons_self
    have e1 : fwd (a :: as) u = fun i => (if a.2.2 = i then u a.1 else 0) + fwd as u i := funext fun i => by unfold fwd; rw [List.map_cons, List.sum_cons]
    have e2 : back (a :: as) v = fun i => (if a.1 = i then v a.2.2 else 0) + back as v i := funext fun i => by unfold back; rw [List.map_cons, List.sum_cons]
    rw [e1, dot_add, dot_unit t.1 (by omega), ih, e2, dot_add2, dot_unit2 s.1 (by omega)]
theorem dot_iter {m : Int} {as : List Arr} (h1 : ∀ a ∈ as, 0 ≤ a.1 ∧ a.1 < m) (h2 : ∀ a ∈ as, 0 ≤ a.2.2 ∧ a.2.2 < m) (es : List Int) : ∀ k j : Nat, dot m.toNat (fws as k) (bws as es j) = dot m.toNat (fws as 0) (bws as es (j + k))
  | 0, j => rfl
  | k + 1, j => by
    show dot m.toNat (fwd as (fws as k)) (bws as es j) = _
    rw [dot_fwd _ _ h1 h2]
    show dot m.toNat (fws as k) (bws as es (j + 1)) = _
    rw [dot_iter h1 h2 es k (j + 1)]
    congr 2
    omega
theorem fws_bws {m : Int} {as : List Arr} (hm : 1 ≤ m) (h1 : ∀ a ∈ as, 0 ≤ a.1 ∧ a.1 < m) (h2 : ∀ a ∈ as, 0 ≤ a.2.2 ∧ a.2.2 < m) (es : List Int) (k : Nat) : dot m.toNat (fws as k) (ind es) = bws as es k 0 := by
  have e := dot_iter h1 h2 es k 0
  rw [Nat.zero_add] at e
  rw [show ind es = bws as es 0 from rfl, e]
  have q : fws as 0 = fun i => if (0 : Int) = i then 1 else 0 := funext fun i => by
    show (if i = 0 then (1 : Int) else 0) = _
    by_cases h : i = 0
    · rw [if_pos h, if_pos h.symm]
    · rw [if_neg h, if_neg fun e => h e.symm]
  rw [q, dot_unit (Int.le_refl _) (by omega), Int.one_mul]
theorem sum_ends {m : Nat} (u : Int → Int) : ∀ {es : List Int}, es.Nodup → (∀ e ∈ es, 0 ≤ e ∧ e < (m : Int)) → (es.map u).sum = dot m u (ind es)
  | [], _, _ => by
    rw [dot_comm, show ind [] = fun _ => 0 from funext fun _ => rfl, dot_zero]
    rfl
  | e :: es, hn, h => by
    obtain ⟨n1, n2⟩ := List.nodup_cons.mp hn
    have ih := sum_ends u n2 fun b mb => h b (List.mem_cons_of_mem _ mb)
    have he := h e List.mem_cons_self
    have q : ind (e :: es) = fun i => (if e = i then 1 else 0) + ind es i := funext fun i => by
      unfold ind
      by_cases h1 : i = e
      · subst h1
        simp [n1]
      · have h1' : ¬ e = i := fun z => h1 z.symm
        by_cases h2 : i ∈ es
        · simp [h2, h1']
        · simp [h2, h1, h1']
    rw [List.map_cons, List.sum_cons, ih, q, dot_add2, dot_unit2 he.1 he.2, Int.mul_one]
/-! ### the listing -/
def findA (as : List Arr) (s : Int) (z : Str) : Option Int := (as.find? fun a => decide (a.1 = s ∧ a.2.1 = z)).map fun a => a.2.2
theorem find_none {as : List Arr} {s : Int} {z : Str} (h : ([.inl s, .inr z] : List Key) ∉ as.map keyA) : findA as s z = none := by
  unfold findA
  rw [Option.map_eq_none_iff, List.find?_eq_none]
  intro a ha
  simp only [decide_eq_true_eq]
  rintro ⟨rfl, rfl⟩
  exact h (List.mem_map.mpr ⟨a, ha, rfl⟩)
theorem sum_words (f : Int → Int) (s : Int) (ws : List Str) (hw : ws.Nodup) : ∀ {as : List Arr}, (as.map keyA).Nodup → (∀ a ∈ as, a.2.1 ∈ ws) → (ws.map fun z => match findA as s z with | some t => f t | none => 0).sum = back as f s
  | [], _, _ => by
    show (ws.map fun z => (0 : Int)).sum = 0
    exact sum_zero ws
  | a :: as, hk, hs => by
    rw [List.map_cons, List.nodup_cons] at hk
    have ih := sum_words f s ws hw hk.2 fun b mb => hs b (List.mem_cons_of_mem _ mb)
    have ha := hs a List.mem_cons_self
    have e2 : back (a :: as) f s = (if a.1 = s then f a.2.2 else 0) + back as f s := by unfold back; rw [List.map_cons, List.sum_cons]
    rw [e2, ← ih]
    by_cases h : a.1 = s
    · subst h
      rw [if_pos rfl]
      have hn : findA as a.1 a.2.1 = none := find_none hk.1
      have g : (fun z => match findA (a :: as) a.1 z with | some t => f t | none => 0) = fun z => (if z = a.2.1 then f a.2.2 else 0) + (match findA as a.1 z with | some t => f t | none => 0) := funext fun z => by
        by_cases hz : z = a.2.1
        · subst hz
          rw [if_pos rfl, hn]
          unfold findA
          rw [List.find?_cons_of_pos (by simp)]
          simp
        · rw [if_neg hz]
          have : findA (a :: as) a.1 z = findA as a.1 z := by
            unfold findA
            rw [List.find?_cons_of_neg (by simp; exact fun e => hz e.symm)]
          rw [this]
          omega
      rw [g, sum_add]
      congr 1
      clear ih g hs
      induction ws with
      | nil => simp at ha
      | cons w ws ihw =>
        rw [List.nodup_cons] at hw
        rw [List.map_cons, List.sum_cons]
        by_cases hz : w = a.2.1
        · rw [if_pos hz]
          have : (ws.map fun z => if z = a.2.1 then f a.2.2 else 0).sum = 0 := by
            refine Eq.trans (congrArg List.sum (List.map_congr_left fun z hz2 => ?_)) (sum_zero ws)
            rw [if_neg fun e => hw.1 (by rw [hz, ← e]; exact hz2)]
          rw [this]; omega
        · rw [if_neg hz, ihw hw.2 ((List.mem_cons.mp ha).resolve_left fun e => hz e.symm)]; omega
    · rw [if_neg h, Int.zero_add]
      congr 1
      refine List.map_congr_left fun z _ => ?_
      have : findA (a :: as) s z = findA as s z := by
        unfold findA
        rw [List.find?_cons_of_neg (by simp; exact fun e => absurd e h)]
      rw [this]
/-- one round of the listing -/
def nextL (as : List Arr) (ws : List Str) (L : List (List Str × Int)) : List (List Str × Int) := L.flatMap fun p => ws.filterMap fun z => (findA as p.2 z).map fun t => (p.1 ++ [z], t)
def listL (as : List Arr) (ws : List Str) : Nat → List (List Str × Int)
  | 0 => [([], 0)]
  | k + 1 => nextL as ws (listL as ws k)
def potL (f : Int → Int) (L : List (List Str × Int)) : Int := (L.map fun p => f p.2).sum
theorem pot_next (f : Int → Int) {as : List Arr} {ws : List Str} (hw : ws.Nodup) (hk : (as.map keyA).Nodup) (hs : ∀ a ∈ as, a.2.1 ∈ ws) : ∀ L, potL f (nextL as ws L) = potL (back as f) L
  | [] => rfl
  | p :: L => by
    have ih := pot_next f hw hk hs L
    unfold potL nextL at ih ⊢
    rw [List.flatMap_cons, List.map_append, List.sum_append, ih, List.map_cons, List.sum_cons, ← sum_words f p.2 ws hw hk hs]
    congr 1
    clear ih hw hs
    induction ws with
    | nil => rfl
    | cons z ws ihw =>
      rw [List.filterMap_cons, List.map_cons, List.sum_cons]
      cases h : findA as p.2 z with
      | none => simp only [Option.map_none]; rw [ihw]; omega
      | some t => simp only [Option.map_some, List.map_cons, List.sum_cons]; rw [ihw]
theorem pot_list {as : List Arr} {ws : List Str} (hw : ws.Nodup) (hk : (as.map keyA).Nodup) (hs : ∀ a ∈ as, a.2.1 ∈ ws) (es : List Int) : ∀ k j : Nat, potL (bws as es j) (listL as ws k) = bws as es (j + k) 0
  | 0, j => by
    show bws as es j 0 + 0 = _
    rw [Int.add_zero]; rfl
  | k + 1, j => by
    show potL (bws as es j) (nextL as ws (listL as ws k)) = _
    rw [pot_next _ hw hk hs]
    show potL (bws as es (j + 1)) (listL as ws k) = _
    rw [pot_list hw hk hs es k (j + 1)]
    congr 1
    omega
theorem pot_ind (es : List Int) : ∀ L : List (List Str × Int), potL (ind es) L = ((L.filter fun p => decide (p.2 ∈ es)).length : Int)
  | [] => rfl
  | p :: L => by
    have ih := pot_ind es L
    unfold potL at ih ⊢
    rw [List.map_cons, List.sum_cons, ih]
    unfold ind
    by_cases h : p.2 ∈ es
    · rw [if_pos h, List.filter_cons_of_pos (by simpa using h), List.length_cons]; omega
    · rw [if_neg h, List.filter_cons_of_neg (by simpa using h)]; omega

end
end T
end

section
set_option Elab.async false
set_option linter.all false
set_option maxRecDepth 100000
set_option maxHeartbeats 2000000
open PySem PySem.Spec PyProof.Rows L2 DL

local macro_rules | `(tactic| walk_at "vis") => `(tactic| first | exact Or.inl rfl | exact Or.inr (Or.inl rfl) | exact Or.inr (Or.inr rfl))
local macro_rules | `(tactic| walk_at "loc") => `(tactic| first | exact Or.inl rfl | exact Or.inr rfl)
local macro_rules | `(tactic| walk_at "side") => `(tactic| first | assumption | omega | decide)
local macro_rules | `(tactic| walk_at "callB") => `(tactic| first
  | ((with_reducible show DE _ _ (Expr.Call (Expr.Name (Str.ofString "len") _) _ _ _) _ _ _); refine de_callB (id := "len") rfl (by assumption) (by decide +kernel) (by decide) (by decide) rfl rfl ?_)
  | ((with_reducible show DE _ _ (Expr.Call (Expr.Name (Str.ofString "max") _) _ _ _) _ _ _); refine de_callB (id := "max") rfl (by assumption) (by decide +kernel) (by decide) (by decide) rfl rfl ?_)
  | ((with_reducible show DE _ _ (Expr.Call (Expr.Name (Str.ofString "min") _) _ _ _) _ _ _); refine de_callB (id := "min") rfl (by assumption) (by decide +kernel) (by decide) (by decide) rfl rfl ?_)
  | ((with_reducible show DE _ _ (Expr.Call (Expr.Name (Str.ofString "abs") _) _ _ _) _ _ _); refine de_callB (id := "abs") rfl (by assumption) (by decide +kernel) (by decide) (by decide) rfl rfl ?_)
  | ((with_reducible show DE _ _ (Expr.Call (Expr.Name (Str.ofString "repr") _) _ _ _) _ _ _); refine de_callB (id := "repr") rfl (by assumption) (by decide +kernel) (by decide) (by decide) rfl rfl ?_)
  | ((with_reducible show DE _ _ (Expr.Call (Expr.Name (Str.ofString "isinstance") _) _ _ _) _ _ _); refine de_callB (id := "isinstance") rfl (by assumption) (by decide +kernel) (by decide) (by decide) rfl rfl ?_)
  | ((with_reducible show DE _ _ (Expr.Call (Expr.Name (Str.ofString "sorted") _) _ _ _) _ _ _); refine de_callB (id := "sorted") rfl (by assumption) (by decide +kernel) (by decide) (by decide) rfl rfl ?_)
  | ((with_reducible show DE _ _ (Expr.Call (Expr.Name (Str.ofString "all") _) _ _ _) _ _ _); refine de_callB (id := "all") rfl (by assumption) (by decide +kernel) (by decide) (by decide) rfl rfl ?_)
  | ((with_reducible show DE _ _ (Expr.Call (Expr.Name (Str.ofString "any") _) _ _ _) _ _ _); refine de_callB (id := "any") rfl (by assumption) (by decide +kernel) (by decide) (by decide) rfl rfl ?_)
  | ((with_reducible show DE _ _ (Expr.Call (Expr.Name (Str.ofString "sum") _) _ _ _) _ _ _); refine de_callB (id := "sum") rfl (by assumption) (by decide +kernel) (by decide) (by decide) rfl rfl ?_)
  | ((with_reducible show DE _ _ (Expr.Call (Expr.Name (Str.ofString "int") _) _ _ _) _ _ _); refine de_callTy (T := "int") rfl (by assumption) (by decide +kernel) (by decide) (by decide) rfl rfl ?_)
  | ((with_reducible show DE _ _ (Expr.Call (Expr.Name (Str.ofString "tuple") _) _ _ _) _ _ _); refine de_callTy (T := "tuple") rfl (by assumption) (by decide +kernel) (by decide) (by decide) rfl rfl ?_)
  | ((with_reducible show DE _ _ (Expr.Call (Expr.Name (Str.ofString "list") _) _ _ _) _ _ _); refine de_callTy (T := "list") rfl (by assumption) (by decide +kernel) (by decide) (by decide) rfl rfl ?_)
  | ((with_reducible show DE _ _ (Expr.Call (Expr.Name (Str.ofString "set") _) _ _ _) _ _ _); refine de_callTy (T := "set") rfl (by assumption) (by decide +kernel) (by decide) (by decide) rfl rfl ?_)
  | ((with_reducible show DE _ _ (Expr.Call (Expr.Name (Str.ofString "str") _) _ _ _) _ _ _); refine de_callTy (T := "str") rfl (by assumption) (by decide +kernel) (by decide) (by decide) rfl rfl ?_))
local macro_rules | `(tactic| walk_at "own") => `(tactic| refine de_own (by assumption) (by assumption) (by assumption) (by decide) rfl (by decide) rfl rfl ?_)
local macro_rules | `(tactic| walk_at "bname") => `(tactic| first
  | ((with_reducible show DE _ _ (Expr.Name (Str.ofString "LETTERS") _) _ _ _); refine de_glob (v := .str abc) rfl (by assumption) ⟨_, rfl⟩ (fun _ => .str _) ?_ (by decide))
  | ((with_reducible show DE _ _ (Expr.Name (Str.ofString "LONGEST_WORD") _) _ _ _); refine de_glob (v := .int 8) rfl (by assumption) ⟨_, rfl⟩ (fun _ => .int _) ?_ (by decide))
  | ((with_reducible show DE _ _ (Expr.Name (Str.ofString "MOST_STATES") _) _ _ _); refine de_glob (v := .int 5) rfl (by assumption) ⟨_, rfl⟩ (fun _ => .int _) ?_ (by decide))
  | ((with_reducible show DE _ _ (Expr.Name (Str.ofString "MOST_ARROWS") _) _ _ _); refine de_glob (v := .int 40) rfl (by assumption) ⟨_, rfl⟩ (fun _ => .int _) ?_ (by decide))
  | ((with_reducible show DE _ _ (Expr.Name (Str.ofString "int") _) _ _ _); refine de_bltn (v := .ty "int") rfl (by assumption) (by decide +kernel) rfl ?_ (by decide) (by decide))
  | ((with_reducible show DE _ _ (Expr.Name (Str.ofString "bool") _) _ _ _); refine de_bltn (v := .ty "bool") rfl (by assumption) (by decide +kernel) rfl ?_ (by decide) (by decide))
  | ((with_reducible show DE _ _ (Expr.Name (Str.ofString "str") _) _ _ _); refine de_bltn (v := .ty "str") rfl (by assumption) (by decide +kernel) rfl ?_ (by decide) (by decide))
  | ((with_reducible show DE _ _ (Expr.Name (Str.ofString "tuple") _) _ _ _); refine de_bltn (v := .ty "tuple") rfl (by assumption) (by decide +kernel) rfl ?_ (by decide) (by decide))
  | ((with_reducible show DE _ _ (Expr.Name (Str.ofString "list") _) _ _ _); refine de_bltn (v := .ty "list") rfl (by assumption) (by decide +kernel) rfl ?_ (by decide) (by decide)))
local macro_rules | `(tactic| walk_at "E") => `(tactic| ((with_reducible show DE _ _ _ _ _ _); first
  | ((with_reducible show DE _ _ (Expr.Name _ _) _ _ _); first | walk_at "name" | walk_at "bname")
  | refine de_int ?_ | refine de_str ?_ | refine de_bl ?_ | refine de_non ?_
  | ((with_reducible show DE _ _ (Expr.Subscript _ (Expr.Tuple _ _ _) _) _ _ _); refine de_dget (by assumption) ?_ (fun _ _ => rfl))
  | ((with_reducible show DE _ _ (Expr.Subscript _ (Expr.Slice _ _ _ _) _) _ _ _); first | refine de_revS ?_ | refine de_slice ?_)
  | refine de_ix ?_ (fun _ _ => rfl)
  | refine de_bin ?_ | refine de_cmp ?_ (by first | exact nomark _ | rfl) | refine de_chain ?_ rfl
  | refine de_one ?_ | refine de_neg ?_ | refine de_and ?_ | refine de_or ?_ | refine de_not ?_ | refine de_if ?_
  | refine de_tup ?_ | refine de_lstP (es := []) ?_ | refine de_lst ?_
  | ((with_reducible show DE _ _ (Expr.Call (Expr.Name _ _) _ _ _) _ _ _); first | walk_at "callB" | walk_at "own")
  | ((with_reducible show DE _ _ (Expr.Call (Expr.Attribute _ (Str.ofString "append") _) _ _ _) _ _ _); refine de_append ?_ rfl rfl rfl rfl rfl)
  | ((with_reducible show DE _ _ (Expr.Call (Expr.Attribute _ (Str.ofString "insert") _) _ _ _) _ _ _); refine de_insert ?_ rfl rfl rfl rfl rfl rfl)))
local macro_rules | `(tactic| walk_at "T") => `(tactic| ((with_reducible show DT _ _ _ _ _ _); first
  | ((with_reducible show DT _ _ (Expr.Compare (Expr.Tuple _ _ _) [CmpOp.In] _ _) _ _ _); refine dt_din (by assumption) ?_ rfl)
  | refine dt_cmp ?_ (by first | exact nomark _ | rfl) | refine dt_chain ?_ rfl | refine dt_not ?_ | refine dt_w (dw_and ?_) | refine dt_w (dw_or ?_) | refine dt_val ?_ (fun _ => rfl)))
local macro_rules | `(tactic| walk_at "W") => `(tactic| ((with_reducible show DW _ _ _ _ _ _); first
  | refine dw_and ?_ | refine dw_or ?_ | refine dw_and1 ?_ | refine dw_or1 ?_))
local macro_rules | `(tactic| walk_at "A") => `(tactic| ((with_reducible show DA _ _ _ _ _ _); first | refine da_nil ?_ | refine da_cons ?_ rfl))
local macro_rules | `(tactic| walk_at "O") => `(tactic| ((with_reducible show BD _ _ _ _ _ _ _ _); first
  | ((with_reducible show BD _ _ (binaryOp Operator.Add) (S.d (D.int _)) (S.d (D.int _)) _ _ _); refine bd_add ?_)
  | ((with_reducible show BD _ _ (binaryOp Operator.Add) (S.d (D.str _)) (S.d (D.str _)) _ _ _); refine bd_addS ?_ ?_)
  | ((with_reducible show BD _ _ (binaryOp Operator.Sub) (S.d (D.int _)) (S.d (D.int _)) _ _ _); refine bd_sub ?_)
  | ((with_reducible show BD _ _ (binaryOp Operator.Mod) (S.d (D.int _)) (S.d (D.int _)) _ _ _); refine bd_mod (by walk_at "side") ?_)
  | ((with_reducible show BD _ _ (binaryOp Operator.Mult) (S.d (D.int _)) (S.d (D.int _)) _ _ _); refine bd_mul ?_ ?_)
  | ((with_reducible show BD _ _ (binaryOp Operator.FloorDiv) (S.d (D.int _)) (S.d (D.int _)) _ _ _); refine bd_fdivW ?_ ?_)
  | ((with_reducible show BD _ _ (binaryOp Operator.Pow) (S.d (D.int _)) (S.d (D.int _)) _ _ _); refine bd_pow ?_ ?_)
  | ((with_reducible show BD _ _ (compareOp CmpOp.Lt) (S.d (D.int _)) (S.d (D.int _)) _ _ _); refine bd_lt ?_)
  | ((with_reducible show BD _ _ (compareOp CmpOp.LtE) (S.d (D.int _)) (S.d (D.int _)) _ _ _); refine bd_le ?_)
  | ((with_reducible show BD _ _ (compareOp CmpOp.Gt) (S.d (D.int _)) (S.d (D.int _)) _ _ _); refine bd_gt ?_)
  | ((with_reducible show BD _ _ (compareOp CmpOp.GtE) (S.d (D.int _)) (S.d (D.int _)) _ _ _); refine bd_ge ?_)
  | ((with_reducible show BD _ _ (compareOp CmpOp.Eq) (S.d (D.int _)) (S.d (D.int _)) _ _ _); refine bd_eqI ?_)
  | ((with_reducible show BD _ _ (compareOp CmpOp.NotEq) (S.d (D.int _)) (S.d (D.int _)) _ _ _); refine bd_neI ?_)
  | ((with_reducible show BD _ _ (compareOp CmpOp.Eq) (S.d (D.str _)) (S.d (D.str _)) _ _ _); refine bd_eqS ?_)
  | ((with_reducible show BD _ _ (compareOp CmpOp.NotEq) (S.d (D.str _)) (S.d (D.str _)) _ _ _); refine bd_neS ?_)))
local macro_rules | `(tactic| walk_at "C") => `(tactic| ((with_reducible show CD _ _ _ _ _ _ _); first
  | ((with_reducible show CD _ _ (Value.type "int") _ _ _ _); refine cd_int ?_)
  | ((with_reducible show CD _ _ (Value.builtin "abs") _ _ _ _); refine cd_abs ?_)
  | ((with_reducible show CD _ _ (Value.builtin "max") _ _ _ _); refine cd_max2 rfl ?_)
  | ((with_reducible show CD _ _ (Value.builtin "min") _ _ _ _); refine cd_min2 rfl ?_)
  | ((with_reducible show CD _ _ (Value.builtin "isinstance") _ _ _ _); refine cd_isiK (by first | rfl | assumption) (by first | decide | exact tyD_six (by assumption)) (by decide) (by decide) ?_)
  | ((with_reducible show CD _ _ (Value.builtin "len") _ _ _ _); first | refine cd_lenT ?_ | refine cd_lenS ?_ ?_ | refine cd_lenP rfl ?_ | refine cd_lenL rfl ?_)
  | ((with_reducible show CD _ _ (Value.type "tuple") _ _ _ _); first | refine cd_tupleT ?_ | refine cd_tuple rfl ?_)))
local macro_rules | `(tactic| walk_at "I") => `(tactic| ((with_reducible show ID _ _ _ _ _ _ _); first
  | refine id_lstP rfl rfl ?_ | refine id_tup rfl ?_ | refine id_lst rfl rfl ?_ | refine id_str ?_ ?_ ?_))
local macro_rules | `(tactic| walk_at "S") => `(tactic| ((with_reducible show DS _ _ _ _ _ _); first
  | ((with_reducible show DS _ _ (Stmt.Assign [Expr.Name _ _] _ _) _ _ _); walk_at "set")
  | refine ds_ret ?_ | refine ds_retN ?_ | refine ds_if ?_ | refine ds_expr ?_ rfl | refine ds_pass ?_ | refine ds_break ?_ | refine ds_continue ?_
  | ((with_reducible show DS _ _ (Stmt.Assign [Expr.Attribute _ _ _] _ _) _ _ _); refine ds_fld ?_ rfl)
  | ((with_reducible show DS _ _ (Stmt.Assign [Expr.Subscript _ (Expr.Tuple _ _ _) _] _ _) _ _ _); refine ds_dput (by assumption) ?_ rfl)
  | ((with_reducible show DS _ _ (Stmt.Assign [Expr.Subscript _ _ _] _ _) _ _ _); refine ds_setL ?_ (fun _ => rfl) rfl rfl rfl) | refine ds_asg ?_ rfl rfl rfl))
local macro_rules | `(tactic| walk_at "B") => `(tactic| ((with_reducible show DB _ _ _ _ _ _); first | refine db_cons ?_ | refine db_nil ?_))
local macro_rules | `(tactic| walk_at "G") => `(tactic| first
  | ((with_reducible show DG _ _ _ _ _ _ _); first | walk_at "gname" | refine dg_tup rfl rfl rfl rfl ?_)
  | ((with_reducible show DGs _ _ _ _ _ _ _); first | refine dgs_nil ?_ | refine dgs_cons ?_ rfl))
local macro_rules | `(tactic| walk_at "X") => `(tactic| first
  | ((with_reducible show ∃ n ss j i, S.p _ = S.p n ∧ _ ∧ _ ∧ _ ∧ _); refine ⟨_, _, _, _, rfl, rfl, rfl, rfl, ?_⟩)
  | ((with_reducible show ∃ n ss, S.p _ = S.p n ∧ _ ∧ _); refine ⟨_, _, rfl, rfl, ?_⟩)
  | ((with_reducible show ∃ n, S.d (D.int _) = S.d (D.int n) ∧ _ ∧ _ ∧ _); refine ⟨_, rfl, ?_, ?_, ?_⟩)
  | ((with_reducible show ∃ b, S.d (D.bl _) = S.d (D.bl b) ∧ _); refine ⟨_, rfl, ?_⟩)
  | ((with_reducible show ∃ b, S.d (D.int _) = S.d (D.int b) ∧ _); refine ⟨_, rfl, ?_⟩))
local macro_rules | `(tactic| walk_at "D") => `(tactic| ((with_reducible show DO _ _ _ _ _ _); first | refine do_none ?_ | refine do_some ?_))
local macro_rules | `(tactic| walk_at "step") => `(tactic| first | walk_at "E" | walk_at "O" | walk_at "I" | walk_at "A" | walk_at "C" | walk_at "B" | walk_at "S" | walk_at "T" | walk_at "W" | walk_at "G" | walk_at "D" | walk_at "X")
local macro_rules | `(tactic| walk_at "go") => `(tactic| repeat walk_at "step")
local macro_rules | `(tactic| walk_at "goE") => `(tactic| repeat (first | walk_at "E" | walk_at "O" | walk_at "I" | walk_at "A" | walk_at "C" | walk_at "T" | walk_at "W" | walk_at "G" | walk_at "D" | walk_at "X"))

namespace T
set_option pp.deepTerms false
set_option pp.deepTerms.threshold 3
section
variable {P : Program} {w : World} {K : PySem.W.Frag} {mg : Str → Option Value} {base : Heap}


theorem alike_arr (a b : Arr) : PySem.W.alike (pyD (arD a)) (pyD (arD b)) = true := by
  simp [pyD, pyDs, PySem.W.alike, PySem.W.alikeAll]
theorem sortOk_arrs {u : Nat} (hu : u + 10 < cLine) (as : List Arr) : SortOk u (as.map arD) where
  ok := by simp [okD, okDs]
  al := by
    rw [List.map_map]
    exact PySem.W.AllAlike.of fun a b => alike_arr a b
  so := by
    rw [List.map_map]
    exact PySem.W.Sortable.tuples fun a => ⟨.int a.1, [.str a.2.1, .int a.2.2], by simp [pyD, pyDs]⟩
  un := fun d m => by
    obtain ⟨a, _, rfl⟩ := List.mem_map.mp m
    have : (pyD (arD a)).depth ≤ 2 := by simp [pyD, pyDs, PyData.depth, PyData.depthAll]
    omega
theorem sortOk_ints {u : Nat} (hu : u + 10 < cLine) (es : List Int) : SortOk u (es.map D.int) where
  ok := by simp [okD]
  al := by
    rw [List.map_map]
    exact PySem.W.AllAlike.of fun a b => by simp [pyD, PySem.W.alike]
  so := by
    rw [List.map_map]
    exact PySem.W.Sortable.others fun a => And.intro (by simp [pyD]) (by simp [pyD])
  un := fun d m => by
    obtain ⟨a, _, rfl⟩ := List.mem_map.mp m
    have : (pyD (.int a)).depth = 0 := by simp [pyD, PyData.depth]
    omega
theorem units10 {k : Nat} {A : Around} (r : Room k A) : A.units + 10 < cLine := by have := r.un; omega
theorem getT_some : ∀ {as : List Arr} {a : Arr}, (as.map keyA).Nodup → a ∈ as → getT (tabS (as.map entA)) (keyA a) = some (.d (.int a.2.2))
  | b :: as, a, h, m => by
    have e : getT (tabS ((b :: as).map entA)) (keyA a) = if keyA b = keyA a then some (.d (.int b.2.2)) else getT (tabS (as.map entA)) (keyA a) := by
      unfold getT tabS
      simp only [List.map_cons, List.find?_cons]
      by_cases q : keyA b = keyA a
      · rw [if_pos q, decide_eq_true q]; rfl
      · rw [if_neg q, decide_eq_false q]
    rw [e]
    rw [List.map_cons, List.nodup_cons] at h
    rcases List.mem_cons.mp m with rfl | m
    · rw [if_pos rfl]
    · have ne : keyA b ≠ keyA a := fun q => h.1 (by rw [q]; exact List.mem_map.mpr ⟨a, m, rfl⟩)
      rw [if_neg ne]
      exact getT_some h.2 m
structure EndsOk (n : Int) (es : List Int) : Prop where
  st : ∀ e ∈ es, 0 ≤ e ∧ e < n
  nd : es.Nodup
  ln : es.length ≤ 100
def mach (n : Int) (as : List Arr) (es : List Int) : List (Str × D) := [("_size", .int n), ("_targets", .dT (as.map entA)), ("_arrows", .tup (sortD (as.map arD))), ("_ends", .tup (sortD (es.map D.int)))]
def sdMI (C : Addr) : Sd := fun ss cs Q => ∃ (n : Int) (as : List Arr) (es : List Int), ss = [.p 0, .d (.int n), .d (.tup (as.map arD)), .d (.tup (es.map D.int))] ∧ 1 ≤ n ∧ n ≤ 5 ∧ ArrsOk n as ∧ EndsOk n es ∧ cs = [.ins C []] ∧ Q (.d .non) [.ins C (insS (mach n as es))]

abbrev sMI : Stmt := mth 30 0
theorem scMI : FnScope ["self", "size", "arrows", "ends", "targets", "state", "sign"] ["self", "size", "arrows", "ends"] (defScope sMI) := ⟨rfl, rfl, rfl, by decide +kernel, rfl, by decide +kernel, by decide +kernel⟩
section
local macro_rules | `(tactic| walk_at "name") => `(tactic| first
  | ((with_reducible show DE _ _ (Expr.Name (Str.ofString "self") _) _ _ _); refine de_name (i := 0) rfl (by walk_at "vis") rfl ?_ (by decide) (by decide))
  | ((with_reducible show DE _ _ (Expr.Name (Str.ofString "size") _) _ _ _); refine de_name (i := 1) rfl (by walk_at "vis") rfl ?_ (by decide) (by decide))
  | ((with_reducible show DE _ _ (Expr.Name (Str.ofString "arrows") _) _ _ _); refine de_name (i := 2) rfl (by walk_at "vis") rfl ?_ (by decide) (by decide))
  | ((with_reducible show DE _ _ (Expr.Name (Str.ofString "ends") _) _ _ _); refine de_name (i := 3) rfl (by walk_at "vis") rfl ?_ (by decide) (by decide))
  | ((with_reducible show DE _ _ (Expr.Name (Str.ofString "targets") _) _ _ _); refine de_name (i := 4) rfl (by walk_at "vis") rfl ?_ (by decide) (by decide))
  | ((with_reducible show DE _ _ (Expr.Name (Str.ofString "state") _) _ _ _); refine de_name (i := 5) rfl (by walk_at "vis") rfl ?_ (by decide) (by decide))
  | ((with_reducible show DE _ _ (Expr.Name (Str.ofString "sign") _) _ _ _); refine de_name (i := 6) rfl (by walk_at "vis") rfl ?_ (by decide) (by decide)))
local macro_rules | `(tactic| walk_at "set") => `(tactic| first
  | ((with_reducible show DS _ _ (Stmt.Assign [Expr.Name (Str.ofString "self") _] _ _) _ _ _); refine ds_set (i := 0) ?_ (by assumption) rfl (by walk_at "loc") rfl (by walk_at "loc"))
  | ((with_reducible show DS _ _ (Stmt.Assign [Expr.Name (Str.ofString "size") _] _ _) _ _ _); refine ds_set (i := 1) ?_ (by assumption) rfl (by walk_at "loc") rfl (by walk_at "loc"))
  | ((with_reducible show DS _ _ (Stmt.Assign [Expr.Name (Str.ofString "arrows") _] _ _) _ _ _); refine ds_set (i := 2) ?_ (by assumption) rfl (by walk_at "loc") rfl (by walk_at "loc"))
  | ((with_reducible show DS _ _ (Stmt.Assign [Expr.Name (Str.ofString "ends") _] _ _) _ _ _); refine ds_set (i := 3) ?_ (by assumption) rfl (by walk_at "loc") rfl (by walk_at "loc"))
  | ((with_reducible show DS _ _ (Stmt.Assign [Expr.Name (Str.ofString "targets") _] _ _) _ _ _); refine ds_set (i := 4) ?_ (by assumption) rfl (by walk_at "loc") rfl (by walk_at "loc"))
  | ((with_reducible show DS _ _ (Stmt.Assign [Expr.Name (Str.ofString "state") _] _ _) _ _ _); refine ds_set (i := 5) ?_ (by assumption) rfl (by walk_at "loc") rfl (by walk_at "loc"))
  | ((with_reducible show DS _ _ (Stmt.Assign [Expr.Name (Str.ofString "sign") _] _ _) _ _ _); refine ds_set (i := 6) ?_ (by assumption) rfl (by walk_at "loc") rfl (by walk_at "loc")))
local macro_rules | `(tactic| walk_at "gname") => `(tactic| first
  | ((with_reducible show DG _ _ (Expr.Name (Str.ofString "self") _) _ _ _ _); refine dg_name (i := 0) (by assumption) rfl (by walk_at "loc") (by walk_at "loc") ?_)
  | ((with_reducible show DG _ _ (Expr.Name (Str.ofString "size") _) _ _ _ _); refine dg_name (i := 1) (by assumption) rfl (by walk_at "loc") (by walk_at "loc") ?_)
  | ((with_reducible show DG _ _ (Expr.Name (Str.ofString "arrows") _) _ _ _ _); refine dg_name (i := 2) (by assumption) rfl (by walk_at "loc") (by walk_at "loc") ?_)
  | ((with_reducible show DG _ _ (Expr.Name (Str.ofString "ends") _) _ _ _ _); refine dg_name (i := 3) (by assumption) rfl (by walk_at "loc") (by walk_at "loc") ?_)
  | ((with_reducible show DG _ _ (Expr.Name (Str.ofString "targets") _) _ _ _ _); refine dg_name (i := 4) (by assumption) rfl (by walk_at "loc") (by walk_at "loc") ?_)
  | ((with_reducible show DG _ _ (Expr.Name (Str.ofString "state") _) _ _ _ _); refine dg_name (i := 5) (by assumption) rfl (by walk_at "loc") (by walk_at "loc") ?_)
  | ((with_reducible show DG _ _ (Expr.Name (Str.ofString "sign") _) _ _ _ _); refine dg_name (i := 6) (by assumption) rfl (by walk_at "loc") (by walk_at "loc") ?_))

theorem ok_MI {C : Addr} {dvs : List V} {kws : List (Str × V)} {f : Addr} {fd : FuncData} (FF : FunD K "__init__" "Machine.__init__" (defArgs sMI) (defBody sMI) (defScope sMI) dvs kws f fd) (cl : Cls K C) (n1 : NoAttr K C "_size") (n2 : NoAttr K C "_targets") (n3 : NoAttr K C "_arrows") (n4 : NoAttr K C "_ends")
    (m1 : mg "tuple" = none) (m2 : mg "sorted" = none) {t1 : Tok} (c1 : mg "MOST_STATES" = some (.int 5 t1)) (c2 : Cal P w K mg base 1 "is_integer" ["value"] sdII) (c3 : Cal P w K mg base 4 "_read_arrows" ["size", "arrows"] sdRA) (c4 : Cal P w K mg base 3 "_are_ends" ["size", "value"] sdAE) :
    FnG P w K mg base CX0 5 f fd ["self", "size", "arrows", "ends"] (spOf K 4 (sdMI C)) := by
  have nd := scMI.nd
  refine fn_okD FF scMI ?_
  intro cdv A outer s H E F ss cs Q hr hgu hsd hl hθ
  obtain ⟨n, as, es, rfl, hn1, hn5, ok, eo, rfl, k⟩ := hsd
  have hu := units1 hr
  have hu10 := units10 hr
  walk_at "go"
  refine spd0' rfl rfl ⟨_, _, rfl, rfl, rfl, got_d ?_⟩
  refine ⟨_, rfl, ?_⟩
  refine ⟨fun h => absurd h (by simp [isI]), fun _ => ?_⟩
  walk_at "go"
  refine ⟨fun _ => ?_, fun h => absurd (of_decide_eq_false h) (by omega)⟩
  walk_at "go"
  rw [show decide (n ≤ 5) = true from decide_eq_true hn5]
  refine ⟨fun h => absurd h (by decide), fun _ => ?_⟩
  walk_at "go"
  refine spd0' rfl rfl ⟨n, as, rfl, ok, rfl, got_d ?_⟩
  walk_at "go"
  refine spd0' rfl rfl ⟨n, es, rfl, eo.st, eo.nd, eo.ln, rfl, got_d ?_⟩
  refine ⟨_, rfl, ?_⟩
  refine ⟨fun h => absurd h (by decide), fun _ => ?_⟩
  walk_at "go"
  refine ⟨0, C, _, rfl, rfl, cl, n1, by decide, ?_⟩
  walk_at "go"
  refine ⟨0, C, _, rfl, rfl, cl, n2, show 1 < 1000 by decide, ?_⟩
  walk_at "go"
  refine de_lcK (i := 5) (j := 6) rfl nd (by decide) (blkOk_by rfl) (fun s H C cl fp => pg_name nd rfl (by walk_at "loc") (by walk_at "loc")) (fun s H C cl fp => pg_name nd rfl (by walk_at "loc") (by walk_at "loc")) (fun s H C cl fp => rfl) (fun _ => rfl) ?_
  walk_at "go"
  refine ⟨as.map entA, rfl, ?_, fun k acc M1 => acc = (as.take k).map arD ∧ M1 = [.ins C (putS "_targets" (.d (.dT (as.map entA))) (putS "_size" (.d (.int n)) []))], ⟨rfl, rfl⟩, ?_, ?_⟩
  · intro k d m
    obtain ⟨a, _, e⟩ := List.mem_map.mp m
    cases e
    rfl
  · rintro k k1 k2 d acc M1 hk ⟨ea, eM⟩ hl1
    rw [List.getElem?_map] at hk
    obtain ⟨a, ha, e⟩ := Option.map_eq_some_iff.mp hk
    cases e
    have mem := List.mem_of_getElem? ha
    have hk2 : k < as.length := (List.getElem?_eq_some_iff.mp ha).1
    have hln := ok.ln
    subst eM
    intro s H2 C2 cl2 fp
    refine dts_nil ⟨fun _ s H2 C2 cl2 fp => ?_, fun h => by cases h⟩
    walk_at "go"
    refine ⟨keyA a, tabS (as.map entA), _, ⟨rfl, show 2 ≤ sizeLine by decide⟩, rfl, getT_some ok.nd mem, ?_⟩
    walk_at "go"
    refine ⟨_, rfl, show 3 ≤ sizeLine by decide, arD a, _, rfl, rfl, rfl, ?_, ?_, rfl⟩
    · rw [ea, List.length_map, List.length_take, sizeLine_eq]; omega
    · rw [ea, List.take_succ, ha, List.map_append]
      rfl
  · rintro acc M1 ⟨ea, rfl⟩ hl1
    rw [List.length_map, List.take_length] at ea
    subst ea
    refine ⟨rfl, ?_⟩
    walk_at "go"
    refine cd_sorted (.inl rfl) (sortOk_arrs hu10 as) ?_
    walk_at "go"
    refine ⟨0, C, _, rfl, rfl, cl, n3, show 2 < 1000 by decide, ?_⟩
    walk_at "go"
    refine cd_sorted (.inr rfl) (sortOk_ints hu10 es) ?_
    walk_at "go"
    refine ⟨0, C, _, rfl, rfl, cl, n4, show 3 < 1000 by decide, ?_⟩
    walk_at "go"
    exact rets_d rfl k

end
end
end T
end

section
set_option Elab.async false
set_option linter.all false
set_option maxRecDepth 100000
set_option maxHeartbeats 2000000
open PySem PySem.Spec PyProof.Rows L2 DL

local macro_rules | `(tactic| walk_at "vis") => `(tactic| first | exact Or.inl rfl | exact Or.inr (Or.inl rfl) | exact Or.inr (Or.inr rfl))
local macro_rules | `(tactic| walk_at "loc") => `(tactic| first | exact Or.inl rfl | exact Or.inr rfl)
local macro_rules | `(tactic| walk_at "side") => `(tactic| first | assumption | omega | decide)
local macro_rules | `(tactic| walk_at "callB") => `(tactic| first
  | ((with_reducible show DE _ _ (Expr.Call (Expr.Name (Str.ofString "len") _) _ _ _) _ _ _); refine de_callB (id := "len") rfl (by assumption) (by decide +kernel) (by decide) (by decide) rfl rfl ?_)
  | ((with_reducible show DE _ _ (Expr.Call (Expr.Name (Str.ofString "max") _) _ _ _) _ _ _); refine de_callB (id := "max") rfl (by assumption) (by decide +kernel) (by decide) (by decide) rfl rfl ?_)
  | ((with_reducible show DE _ _ (Expr.Call (Expr.Name (Str.ofString "min") _) _ _ _) _ _ _); refine de_callB (id := "min") rfl (by assumption) (by decide +kernel) (by decide) (by decide) rfl rfl ?_)
  | ((with_reducible show DE _ _ (Expr.Call (Expr.Name (Str.ofString "abs") _) _ _ _) _ _ _); refine de_callB (id := "abs") rfl (by assumption) (by decide +kernel) (by decide) (by decide) rfl rfl ?_)
  | ((with_reducible show DE _ _ (Expr.Call (Expr.Name (Str.ofString "repr") _) _ _ _) _ _ _); refine de_callB (id := "repr") rfl (by assumption) (by decide +kernel) (by decide) (by decide) rfl rfl ?_)
  | ((with_reducible show DE _ _ (Expr.Call (Expr.Name (Str.ofString "isinstance") _) _ _ _) _ _ _); refine de_callB (id := "isinstance") rfl (by assumption) (by decide +kernel) (by decide) (by decide) rfl rfl ?_)
  | ((with_reducible show DE _ _ (Expr.Call (Expr.Name (Str.ofString "sorted") _) _ _ _) _ _ _); refine de_callB (id := "sorted") rfl (by assumption) (by decide +kernel) (by decide) (by decide) rfl rfl ?_)
  | ((with_reducible show DE _ _ (Expr.Call (Expr.Name (Str.ofString "all") _) _ _ _) _ _ _); refine de_callB (id := "all") rfl (by assumption) (by decide +kernel) (by decide) (by decide) rfl rfl ?_)
  | ((with_reducible show DE _ _ (Expr.Call (Expr.Name (Str.ofString "any") _) _ _ _) _ _ _); refine de_callB (id := "any") rfl (by assumption) (by decide +kernel) (by decide) (by decide) rfl rfl ?_)
  | ((with_reducible show DE _ _ (Expr.Call (Expr.Name (Str.ofString "sum") _) _ _ _) _ _ _); refine de_callB (id := "sum") rfl (by assumption) (by decide +kernel) (by decide) (by decide) rfl rfl ?_)
  | ((with_reducible show DE _ _ (Expr.Call (Expr.Name (Str.ofString "int") _) _ _ _) _ _ _); refine de_callTy (T := "int") rfl (by assumption) (by decide +kernel) (by decide) (by decide) rfl rfl ?_)
  | ((with_reducible show DE _ _ (Expr.Call (Expr.Name (Str.ofString "tuple") _) _ _ _) _ _ _); refine de_callTy (T := "tuple") rfl (by assumption) (by decide +kernel) (by decide) (by decide) rfl rfl ?_)
  | ((with_reducible show DE _ _ (Expr.Call (Expr.Name (Str.ofString "list") _) _ _ _) _ _ _); refine de_callTy (T := "list") rfl (by assumption) (by decide +kernel) (by decide) (by decide) rfl rfl ?_)
  | ((with_reducible show DE _ _ (Expr.Call (Expr.Name (Str.ofString "set") _) _ _ _) _ _ _); refine de_callTy (T := "set") rfl (by assumption) (by decide +kernel) (by decide) (by decide) rfl rfl ?_)
  | ((with_reducible show DE _ _ (Expr.Call (Expr.Name (Str.ofString "str") _) _ _ _) _ _ _); refine de_callTy (T := "str") rfl (by assumption) (by decide +kernel) (by decide) (by decide) rfl rfl ?_))
local macro_rules | `(tactic| walk_at "own") => `(tactic| refine de_own (by assumption) (by assumption) (by assumption) (by decide) rfl (by decide) rfl rfl ?_)
local macro_rules | `(tactic| walk_at "bname") => `(tactic| first
  | ((with_reducible show DE _ _ (Expr.Name (Str.ofString "LETTERS") _) _ _ _); refine de_glob (v := .str abc) rfl (by assumption) ⟨_, rfl⟩ (fun _ => .str _) ?_ (by decide))
  | ((with_reducible show DE _ _ (Expr.Name (Str.ofString "LONGEST_WORD") _) _ _ _); refine de_glob (v := .int 8) rfl (by assumption) ⟨_, rfl⟩ (fun _ => .int _) ?_ (by decide))
  | ((with_reducible show DE _ _ (Expr.Name (Str.ofString "MOST_STATES") _) _ _ _); refine de_glob (v := .int 5) rfl (by assumption) ⟨_, rfl⟩ (fun _ => .int _) ?_ (by decide))
  | ((with_reducible show DE _ _ (Expr.Name (Str.ofString "MOST_ARROWS") _) _ _ _); refine de_glob (v := .int 40) rfl (by assumption) ⟨_, rfl⟩ (fun _ => .int _) ?_ (by decide))
  | ((with_reducible show DE _ _ (Expr.Name (Str.ofString "int") _) _ _ _); refine de_bltn (v := .ty "int") rfl (by assumption) (by decide +kernel) rfl ?_ (by decide) (by decide))
  | ((with_reducible show DE _ _ (Expr.Name (Str.ofString "bool") _) _ _ _); refine de_bltn (v := .ty "bool") rfl (by assumption) (by decide +kernel) rfl ?_ (by decide) (by decide))
  | ((with_reducible show DE _ _ (Expr.Name (Str.ofString "str") _) _ _ _); refine de_bltn (v := .ty "str") rfl (by assumption) (by decide +kernel) rfl ?_ (by decide) (by decide))
  | ((with_reducible show DE _ _ (Expr.Name (Str.ofString "tuple") _) _ _ _); refine de_bltn (v := .ty "tuple") rfl (by assumption) (by decide +kernel) rfl ?_ (by decide) (by decide))
  | ((with_reducible show DE _ _ (Expr.Name (Str.ofString "list") _) _ _ _); refine de_bltn (v := .ty "list") rfl (by assumption) (by decide +kernel) rfl ?_ (by decide) (by decide)))
local macro_rules | `(tactic| walk_at "E") => `(tactic| ((with_reducible show DE _ _ _ _ _ _); first
  | ((with_reducible show DE _ _ (Expr.Name _ _) _ _ _); first | walk_at "name" | walk_at "bname")
  | refine de_int ?_ | refine de_str ?_ | refine de_bl ?_ | refine de_non ?_
  | ((with_reducible show DE _ _ (Expr.Subscript _ (Expr.Tuple _ _ _) _) _ _ _); refine de_dget (by assumption) ?_ (fun _ _ => rfl))
  | ((with_reducible show DE _ _ (Expr.Subscript _ (Expr.Slice _ _ _ _) _) _ _ _); first | refine de_revS ?_ | refine de_slice ?_)
  | refine de_ix ?_ (fun _ _ => rfl)
  | refine de_bin ?_ | refine de_cmp ?_ (by first | exact nomark _ | rfl) | refine de_chain ?_ rfl
  | refine de_one ?_ | refine de_neg ?_ | refine de_and ?_ | refine de_or ?_ | refine de_not ?_ | refine de_if ?_
  | refine de_tup ?_ | refine de_lstP (es := []) ?_ | refine de_lst ?_
  | ((with_reducible show DE _ _ (Expr.Call (Expr.Name _ _) _ _ _) _ _ _); first | walk_at "callB" | walk_at "own")
  | ((with_reducible show DE _ _ (Expr.Call (Expr.Attribute _ (Str.ofString "append") _) _ _ _) _ _ _); refine de_append ?_ rfl rfl rfl rfl rfl)
  | ((with_reducible show DE _ _ (Expr.Call (Expr.Attribute _ (Str.ofString "insert") _) _ _ _) _ _ _); refine de_insert ?_ rfl rfl rfl rfl rfl rfl)))
local macro_rules | `(tactic| walk_at "T") => `(tactic| ((with_reducible show DT _ _ _ _ _ _); first
  | ((with_reducible show DT _ _ (Expr.Compare (Expr.Tuple _ _ _) [CmpOp.In] _ _) _ _ _); refine dt_din (by assumption) ?_ rfl)
  | refine dt_cmp ?_ (by first | exact nomark _ | rfl) | refine dt_chain ?_ rfl | refine dt_not ?_ | refine dt_w (dw_and ?_) | refine dt_w (dw_or ?_) | refine dt_val ?_ (fun _ => rfl)))
local macro_rules | `(tactic| walk_at "W") => `(tactic| ((with_reducible show DW _ _ _ _ _ _); first
  | refine dw_and ?_ | refine dw_or ?_ | refine dw_and1 ?_ | refine dw_or1 ?_))
local macro_rules | `(tactic| walk_at "A") => `(tactic| ((with_reducible show DA _ _ _ _ _ _); first | refine da_nil ?_ | refine da_cons ?_ rfl))
local macro_rules | `(tactic| walk_at "O") => `(tactic| ((with_reducible show BD _ _ _ _ _ _ _ _); first
  | ((with_reducible show BD _ _ (binaryOp Operator.Add) (S.d (D.int _)) (S.d (D.int _)) _ _ _); refine bd_add ?_)
  | ((with_reducible show BD _ _ (binaryOp Operator.Add) (S.d (D.str _)) (S.d (D.str _)) _ _ _); refine bd_addS ?_ ?_)
  | ((with_reducible show BD _ _ (binaryOp Operator.Sub) (S.d (D.int _)) (S.d (D.int _)) _ _ _); refine bd_sub ?_)
  | ((with_reducible show BD _ _ (binaryOp Operator.Mod) (S.d (D.int _)) (S.d (D.int _)) _ _ _); refine bd_mod (by walk_at "side") ?_)
  | ((with_reducible show BD _ _ (binaryOp Operator.Mult) (S.d (D.int _)) (S.d (D.int _)) _ _ _); refine bd_mul ?_ ?_)
  | ((with_reducible show BD _ _ (binaryOp Operator.FloorDiv) (S.d (D.int _)) (S.d (D.int _)) _ _ _); refine bd_fdivW ?_ ?_)
  | ((with_reducible show BD _ _ (binaryOp Operator.Pow) (S.d (D.int _)) (S.d (D.int _)) _ _ _); refine bd_pow ?_ ?_)
  | ((with_reducible show BD _ _ (compareOp CmpOp.Lt) (S.d (D.int _)) (S.d (D.int _)) _ _ _); refine bd_lt ?_)
  | ((with_reducible show BD _ _ (compareOp CmpOp.LtE) (S.d (D.int _)) (S.d (D.int _)) _ _ _); refine bd_le ?_)
  | ((with_reducible show BD _ _ (compareOp CmpOp.Gt) (S.d (D.int _)) (S.d (D.int _)) _ _ _); refine bd_gt ?_)
  | ((with_reducible show BD _ _ (compareOp CmpOp.GtE) (S.d (D.int _)) (S.d (D.int _)) _ _ _); refine bd_ge ?_)
  | ((with_reducible show BD _ _ (compareOp CmpOp.Eq) (S.d (D.int _)) (S.d (D.int _)) _ _ _); refine bd_eqI ?_)
  | ((with_reducible show BD _ _ (compareOp CmpOp.NotEq) (S.d (D.int _)) (S.d (D.int _)) _ _ _); refine bd_neI ?_)
  | ((with_reducible show BD _ _ (compareOp CmpOp.Eq) (S.d (D.str _)) (S.d (D.str _)) _ _ _); refine bd_eqS ?_)
  | ((with_reducible show BD _ _ (compareOp CmpOp.NotEq) (S.d (D.str _)) (S.d (D.str _)) _ _ _); refine bd_neS ?_)))
local macro_rules | `(tactic| walk_at "C") => `(tactic| ((with_reducible show CD _ _ _ _ _ _ _); first
  | ((with_reducible show CD _ _ (Value.type "int") _ _ _ _); refine cd_int ?_)
  | ((with_reducible show CD _ _ (Value.builtin "abs") _ _ _ _); refine cd_abs ?_)
  | ((with_reducible show CD _ _ (Value.builtin "max") _ _ _ _); refine cd_max2 rfl ?_)
  | ((with_reducible show CD _ _ (Value.builtin "min") _ _ _ _); refine cd_min2 rfl ?_)
  | ((with_reducible show CD _ _ (Value.builtin "isinstance") _ _ _ _); refine cd_isiK (by first | rfl | assumption) (by first | decide | exact tyD_six (by assumption)) (by decide) (by decide) ?_)
  | ((with_reducible show CD _ _ (Value.builtin "len") _ _ _ _); first | refine cd_lenT ?_ | refine cd_lenS ?_ ?_ | refine cd_lenP rfl ?_ | refine cd_lenL rfl ?_)
  | ((with_reducible show CD _ _ (Value.type "tuple") _ _ _ _); first | refine cd_tupleT ?_ | refine cd_tuple rfl ?_)))
local macro_rules | `(tactic| walk_at "I") => `(tactic| ((with_reducible show ID _ _ _ _ _ _ _); first
  | refine id_lstP rfl rfl ?_ | refine id_tup rfl ?_ | refine id_lst rfl rfl ?_ | refine id_str ?_ ?_ ?_))
local macro_rules | `(tactic| walk_at "S") => `(tactic| ((with_reducible show DS _ _ _ _ _ _); first
  | ((with_reducible show DS _ _ (Stmt.Assign [Expr.Name _ _] _ _) _ _ _); walk_at "set")
  | refine ds_ret ?_ | refine ds_retN ?_ | refine ds_if ?_ | refine ds_expr ?_ rfl | refine ds_pass ?_ | refine ds_break ?_ | refine ds_continue ?_
  | ((with_reducible show DS _ _ (Stmt.Assign [Expr.Attribute _ _ _] _ _) _ _ _); refine ds_fld ?_ rfl)
  | ((with_reducible show DS _ _ (Stmt.Assign [Expr.Subscript _ (Expr.Tuple _ _ _) _] _ _) _ _ _); refine ds_dput (by assumption) ?_ rfl)
  | ((with_reducible show DS _ _ (Stmt.Assign [Expr.Subscript _ _ _] _ _) _ _ _); refine ds_setL ?_ (fun _ => rfl) rfl rfl rfl) | refine ds_asg ?_ rfl rfl rfl))
local macro_rules | `(tactic| walk_at "B") => `(tactic| ((with_reducible show DB _ _ _ _ _ _); first | refine db_cons ?_ | refine db_nil ?_))
local macro_rules | `(tactic| walk_at "G") => `(tactic| first
  | ((with_reducible show DG _ _ _ _ _ _ _); first | walk_at "gname" | refine dg_tup rfl rfl rfl rfl ?_)
  | ((with_reducible show DGs _ _ _ _ _ _ _); first | refine dgs_nil ?_ | refine dgs_cons ?_ rfl))
local macro_rules | `(tactic| walk_at "X") => `(tactic| first
  | ((with_reducible show ∃ n ss j i, S.p _ = S.p n ∧ _ ∧ _ ∧ _ ∧ _); refine ⟨_, _, _, _, rfl, rfl, rfl, rfl, ?_⟩)
  | ((with_reducible show ∃ n ss, S.p _ = S.p n ∧ _ ∧ _); refine ⟨_, _, rfl, rfl, ?_⟩)
  | ((with_reducible show ∃ n, S.d (D.int _) = S.d (D.int n) ∧ _ ∧ _ ∧ _); refine ⟨_, rfl, ?_, ?_, ?_⟩)
  | ((with_reducible show ∃ b, S.d (D.bl _) = S.d (D.bl b) ∧ _); refine ⟨_, rfl, ?_⟩)
  | ((with_reducible show ∃ b, S.d (D.int _) = S.d (D.int b) ∧ _); refine ⟨_, rfl, ?_⟩))
local macro_rules | `(tactic| walk_at "D") => `(tactic| ((with_reducible show DO _ _ _ _ _ _); first | refine do_none ?_ | refine do_some ?_))
local macro_rules | `(tactic| walk_at "step") => `(tactic| first | walk_at "E" | walk_at "O" | walk_at "I" | walk_at "A" | walk_at "C" | walk_at "B" | walk_at "S" | walk_at "T" | walk_at "W" | walk_at "G" | walk_at "D" | walk_at "X")
local macro_rules | `(tactic| walk_at "go") => `(tactic| repeat walk_at "step")
local macro_rules | `(tactic| walk_at "goE") => `(tactic| repeat (first | walk_at "E" | walk_at "O" | walk_at "I" | walk_at "A" | walk_at "C" | walk_at "T" | walk_at "W" | walk_at "G" | walk_at "D" | walk_at "X"))

namespace T
set_option pp.deepTerms false
set_option pp.deepTerms.threshold 3
section
variable {P : Program} {w : World} {K : PySem.W.Frag} {mg : Str → Option Value} {base : Heap}


def sortA (as : List Arr) : List Arr := as.mergeSort fun a b => PySem.W.dataLe false pyD (arD a) (arD b)
theorem sortD_arr (as : List Arr) : sortD (as.map arD) = (sortA as).map arD := (List.map_mergeSort (f := arD) fun a _ b _ => rfl).symm
theorem sortA_perm (as : List Arr) : (sortA as).Perm as := List.mergeSort_perm _ _
def dedW (ws : List Str) : List Str := (dedK (ws.map Sum.inr)).filterMap fun k => match k with | .inr x => some x | .inl _ => none
theorem dedW_eq (ws : List Str) : dedK (ws.map Sum.inr) = (dedW ws).map Sum.inr := by
  have key : ∀ ks : List Key, (∀ k ∈ ks, ∃ x : Str, k = .inr x) → ks = (ks.filterMap fun k => match k with | .inr x => some x | .inl _ => none).map Sum.inr := by
    intro ks
    induction ks with
    | nil => intro _; rfl
    | cons k ks ih =>
      intro h
      obtain ⟨x, rfl⟩ := h k List.mem_cons_self
      rw [List.filterMap_cons, List.map_cons, ← ih fun j m => h j (List.mem_cons_of_mem _ m)]
  refine key _ fun k m => ?_
  obtain ⟨x, _, e⟩ := List.mem_map.mp (mem_dedK.1 m)
  exact ⟨x, e.symm⟩
theorem inr_nodup {ws : List Str} (h : (ws.map (Sum.inr : Str → Key)).Nodup) : ws.Nodup := by
  rw [List.Nodup, List.pairwise_map] at h
  exact h.imp fun h e => h (by rw [e])
theorem dedW_nodup (ws : List Str) : (dedW ws).Nodup := inr_nodup (by rw [← dedW_eq]; exact dedK_nodup _)
theorem mem_dedW {ws : List Str} {x : Str} : x ∈ dedW ws ↔ x ∈ ws := by
  have h : (Sum.inr x : Key) ∈ (dedW ws).map Sum.inr ↔ (Sum.inr x : Key) ∈ ws.map Sum.inr := by rw [← dedW_eq]; exact mem_dedK
  simpa using h
theorem dedW_len (ws : List Str) : (dedW ws).length ≤ ws.length := by
  have := dedK_len (ws.map (Sum.inr : Str → Key))
  rw [dedW_eq] at this
  simpa using this
theorem dedW_perm {xs ys : List Str} (p : xs.Perm ys) : (dedW xs).Perm (dedW ys) :=
  (List.perm_ext_iff_of_nodup (dedW_nodup xs) (dedW_nodup ys)).2 fun x => by rw [mem_dedW, mem_dedW, p.mem_iff]
def sgn (as : List Arr) : List Str := sortS (dedW (as.map fun a => a.2.1))
theorem sgn_sort (as : List Arr) : sgn (sortA as) = sgn as := sortS_perm (dedW_perm ((sortA_perm as).map _))
def sdG (C : Addr) (r : Int → List Arr → List Int → Rs) : Sd := fun ss cs Q => ∃ (n : Int) (as : List Arr) (es : List Int), ss = [.d (.ins C (mach n as es))] ∧ as.length ≤ 40 ∧ cs = [] ∧ Q (r n as es) []
abbrev rSigns : Int → List Arr → List Int → Rs := fun _ as _ => .new (.lst ((sgn as).map fun z => S.d (.str z)))

abbrev sMS : Stmt := mth 30 1
theorem scMS : FnScope ["self"] ["self"] (defScope sMS) := ⟨rfl, rfl, rfl, by decide +kernel, rfl, by decide +kernel, by decide +kernel⟩
section
local macro_rules | `(tactic| walk_at "name") => `(tactic| first
  | ((with_reducible show DE _ _ (Expr.Name (Str.ofString "self") _) _ _ _); refine de_name (i := 0) rfl (by walk_at "vis") rfl ?_ (by decide) (by decide)))
local macro_rules | `(tactic| walk_at "set") => `(tactic| first
  | ((with_reducible show DS _ _ (Stmt.Assign [Expr.Name (Str.ofString "self") _] _ _) _ _ _); refine ds_set (i := 0) ?_ (by assumption) rfl (by walk_at "loc") rfl (by walk_at "loc")))
local macro_rules | `(tactic| walk_at "gname") => `(tactic| first
  | ((with_reducible show DG _ _ (Expr.Name (Str.ofString "self") _) _ _ _ _); refine dg_name (i := 0) (by assumption) rfl (by walk_at "loc") (by walk_at "loc") ?_))

theorem ok_MS {C : Addr} {f : Addr} {fd : FuncData} (FF : Fun K "size" "Machine.size" sMS f fd) (cl : Cls K C) (n1 : NoAttr K C "_size") : FnG P w K mg base CX0 1 f fd ["self"] (spOf K 1 (sdG C fun n as es => .d (.int n))) := by
  have nd := scMS.nd
  refine fn_ok FF scMS ?_
  intro cdv A outer s H E F ss cs Q hr hgu hsd hl hθ
  obtain ⟨n, as, es, rfl, _, rfl, k⟩ := hsd
  walk_at "go"
  refine de_fld rfl ?_
  walk_at "go"
  refine ⟨C, _, _, rfl, cl, n1, rfl, ?_⟩
  exact rets_d rfl k

end
abbrev sMA : Stmt := mth 30 2
theorem scMA : FnScope ["self"] ["self"] (defScope sMA) := ⟨rfl, rfl, rfl, by decide +kernel, rfl, by decide +kernel, by decide +kernel⟩
section
local macro_rules | `(tactic| walk_at "name") => `(tactic| first
  | ((with_reducible show DE _ _ (Expr.Name (Str.ofString "self") _) _ _ _); refine de_name (i := 0) rfl (by walk_at "vis") rfl ?_ (by decide) (by decide)))
local macro_rules | `(tactic| walk_at "set") => `(tactic| first
  | ((with_reducible show DS _ _ (Stmt.Assign [Expr.Name (Str.ofString "self") _] _ _) _ _ _); refine ds_set (i := 0) ?_ (by assumption) rfl (by walk_at "loc") rfl (by walk_at "loc")))
local macro_rules | `(tactic| walk_at "gname") => `(tactic| first
  | ((with_reducible show DG _ _ (Expr.Name (Str.ofString "self") _) _ _ _ _); refine dg_name (i := 0) (by assumption) rfl (by walk_at "loc") (by walk_at "loc") ?_))

theorem ok_MA {C : Addr} {f : Addr} {fd : FuncData} (FF : Fun K "arrows" "Machine.arrows" sMA f fd) (cl : Cls K C) (n1 : NoAttr K C "_arrows") : FnG P w K mg base CX0 1 f fd ["self"] (spOf K 1 (sdG C fun n as es => .d (.tup (sortD (as.map arD))))) := by
  have nd := scMA.nd
  refine fn_ok FF scMA ?_
  intro cdv A outer s H E F ss cs Q hr hgu hsd hl hθ
  obtain ⟨n, as, es, rfl, _, rfl, k⟩ := hsd
  walk_at "go"
  refine de_fld rfl ?_
  walk_at "go"
  refine ⟨C, _, _, rfl, cl, n1, rfl, ?_⟩
  exact rets_d rfl k

end
abbrev sME : Stmt := mth 30 3
theorem scME : FnScope ["self"] ["self"] (defScope sME) := ⟨rfl, rfl, rfl, by decide +kernel, rfl, by decide +kernel, by decide +kernel⟩
section
local macro_rules | `(tactic| walk_at "name") => `(tactic| first
  | ((with_reducible show DE _ _ (Expr.Name (Str.ofString "self") _) _ _ _); refine de_name (i := 0) rfl (by walk_at "vis") rfl ?_ (by decide) (by decide)))
local macro_rules | `(tactic| walk_at "set") => `(tactic| first
  | ((with_reducible show DS _ _ (Stmt.Assign [Expr.Name (Str.ofString "self") _] _ _) _ _ _); refine ds_set (i := 0) ?_ (by assumption) rfl (by walk_at "loc") rfl (by walk_at "loc")))
local macro_rules | `(tactic| walk_at "gname") => `(tactic| first
  | ((with_reducible show DG _ _ (Expr.Name (Str.ofString "self") _) _ _ _ _); refine dg_name (i := 0) (by assumption) rfl (by walk_at "loc") (by walk_at "loc") ?_))

theorem ok_ME {C : Addr} {f : Addr} {fd : FuncData} (FF : Fun K "ends" "Machine.ends" sME f fd) (cl : Cls K C) (n1 : NoAttr K C "_ends") : FnG P w K mg base CX0 1 f fd ["self"] (spOf K 1 (sdG C fun n as es => .d (.tup (sortD (es.map D.int))))) := by
  have nd := scME.nd
  refine fn_ok FF scME ?_
  intro cdv A outer s H E F ss cs Q hr hgu hsd hl hθ
  obtain ⟨n, as, es, rfl, _, rfl, k⟩ := hsd
  walk_at "go"
  refine de_fld rfl ?_
  walk_at "go"
  refine ⟨C, _, _, rfl, cl, n1, rfl, ?_⟩
  exact rets_d rfl k

end
abbrev sMG : Stmt := mth 30 4
theorem scMG : FnScope ["self", "arrow"] ["self"] (defScope sMG) := ⟨rfl, rfl, rfl, by decide +kernel, rfl, by decide +kernel, by decide +kernel⟩
section
local macro_rules | `(tactic| walk_at "name") => `(tactic| first
  | ((with_reducible show DE _ _ (Expr.Name (Str.ofString "self") _) _ _ _); refine de_name (i := 0) rfl (by walk_at "vis") rfl ?_ (by decide) (by decide))
  | ((with_reducible show DE _ _ (Expr.Name (Str.ofString "arrow") _) _ _ _); refine de_name (i := 1) rfl (by walk_at "vis") rfl ?_ (by decide) (by decide)))
local macro_rules | `(tactic| walk_at "set") => `(tactic| first
  | ((with_reducible show DS _ _ (Stmt.Assign [Expr.Name (Str.ofString "self") _] _ _) _ _ _); refine ds_set (i := 0) ?_ (by assumption) rfl (by walk_at "loc") rfl (by walk_at "loc"))
  | ((with_reducible show DS _ _ (Stmt.Assign [Expr.Name (Str.ofString "arrow") _] _ _) _ _ _); refine ds_set (i := 1) ?_ (by assumption) rfl (by walk_at "loc") rfl (by walk_at "loc")))
local macro_rules | `(tactic| walk_at "gname") => `(tactic| first
  | ((with_reducible show DG _ _ (Expr.Name (Str.ofString "self") _) _ _ _ _); refine dg_name (i := 0) (by assumption) rfl (by walk_at "loc") (by walk_at "loc") ?_)
  | ((with_reducible show DG _ _ (Expr.Name (Str.ofString "arrow") _) _ _ _ _); refine dg_name (i := 1) (by assumption) rfl (by walk_at "loc") (by walk_at "loc") ?_))

theorem ok_MG {C : Addr} {f : Addr} {fd : FuncData} (FF : Fun K "signs" "Machine.signs" sMG f fd) (cl : Cls K C) (n1 : NoAttr K C "_arrows") (m1 : mg "sorted" = none) : FnG P w K mg base CX0 1 f fd ["self"] (spOf K 1 (sdG C rSigns)) := by
  have nd := scMG.nd
  refine fn_ok FF scMG ?_
  intro cdv A outer s H E F ss cs Q hr hgu hsd hl hθ
  obtain ⟨n, as, es, rfl, hlen, rfl, k⟩ := hsd
  have hu3 := units3 hr
  have hl2 : (sortA as).length ≤ 40 := by rw [(sortA_perm as).length_eq]; exact hlen
  walk_at "go"
  refine de_scT (i := 1) rfl nd (blkOk_by rfl) (fun s H C cl fp => pg_name nd rfl (by walk_at "loc") (by walk_at "loc")) (fun _ => rfl) ?_
  refine de_fld rfl ?_
  walk_at "go"
  refine ⟨C, _, _, rfl, cl, n1, rfl, _, rfl, fun k acc M1 => acc = dedK (((sortA as).take k).map fun a => (.inr a.2.1 : Key)) ∧ M1 = [], ⟨rfl, rfl⟩, ?_, ?_⟩
  · rintro k d acc M1 hk ⟨ea, eM⟩ hl1
    rw [sortD_arr, List.getElem?_map] at hk
    obtain ⟨a, ha, e⟩ := Option.map_eq_some_iff.mp hk
    cases e
    have hk2 : k < (sortA as).length := (List.getElem?_eq_some_iff.mp ha).1
    subst eM
    intro s H2 C2 cl2 fp
    refine dts_nil ⟨fun _ s H2 C2 cl2 fp => ?_, fun h => by cases h⟩
    walk_at "go"
    refine ⟨.inr a.2.1, [], rfl, rfl, rfl, ?_, ?_, rfl⟩
    · have q := dedK_len (((sortA as).take k).map fun a => (.inr a.2.1 : Key))
      rw [List.length_map, List.length_take] at q
      rw [ea]
      exact Nat.lt_of_le_of_lt (show _ ≤ 41 by omega) (by decide)
    · rw [ea, List.take_succ, ha, List.map_append, Option.toList_some, List.map_cons, List.map_nil, dedK_snoc]
  · rintro acc M1 ⟨ea, rfl⟩ hl1
    rw [sortD_arr, List.length_map, List.take_length, show ((sortA as).map fun a => (.inr a.2.1 : Key)) = ((sortA as).map fun a => a.2.1).map Sum.inr by rw [List.map_map]; rfl, dedW_eq] at ea
    subst ea
    walk_at "go"
    refine cd_sortedMP rfl hu3 ?_ rfl ?_
    · have q := dedW_len ((sortA as).map fun a => a.2.1)
      rw [List.length_map] at q
      rw [sizeLine_eq]; omega
    · walk_at "go"
      refine rets_p rfl (Nat.zero_le _) rfl ?_ ?_
      · simp [DL.C.flat, flatS]
      · have e : sortS (dedW ((sortA as).map fun a => a.2.1)) = sgn as := sgn_sort as
        rw [e]
        exact k

end
end
end T
end

section
set_option Elab.async false
set_option linter.all false
set_option maxRecDepth 100000
set_option maxHeartbeats 2000000
open PySem PySem.Spec PyProof.Rows L2 DL

local macro_rules | `(tactic| walk_at "vis") => `(tactic| first | exact Or.inl rfl | exact Or.inr (Or.inl rfl) | exact Or.inr (Or.inr rfl))
local macro_rules | `(tactic| walk_at "loc") => `(tactic| first | exact Or.inl rfl | exact Or.inr rfl)
local macro_rules | `(tactic| walk_at "side") => `(tactic| first | assumption | omega | decide)
local macro_rules | `(tactic| walk_at "callB") => `(tactic| first
  | ((with_reducible show DE _ _ (Expr.Call (Expr.Name (Str.ofString "len") _) _ _ _) _ _ _); refine de_callB (id := "len") rfl (by assumption) (by decide +kernel) (by decide) (by decide) rfl rfl ?_)
  | ((with_reducible show DE _ _ (Expr.Call (Expr.Name (Str.ofString "max") _) _ _ _) _ _ _); refine de_callB (id := "max") rfl (by assumption) (by decide +kernel) (by decide) (by decide) rfl rfl ?_)
  | ((with_reducible show DE _ _ (Expr.Call (Expr.Name (Str.ofString "min") _) _ _ _) _ _ _); refine de_callB (id := "min") rfl (by assumption) (by decide +kernel) (by decide) (by decide) rfl rfl ?_)
  | ((with_reducible show DE _ _ (Expr.Call (Expr.Name (Str.ofString "abs") _) _ _ _) _ _ _); refine de_callB (id := "abs") rfl (by assumption) (by decide +kernel) (by decide) (by decide) rfl rfl ?_)
  | ((with_reducible show DE _ _ (Expr.Call (Expr.Name (Str.ofString "repr") _) _ _ _) _ _ _); refine de_callB (id := "repr") rfl (by assumption) (by decide +kernel) (by decide) (by decide) rfl rfl ?_)
  | ((with_reducible show DE _ _ (Expr.Call (Expr.Name (Str.ofString "isinstance") _) _ _ _) _ _ _); refine de_callB (id := "isinstance") rfl (by assumption) (by decide +kernel) (by decide) (by decide) rfl rfl ?_)
  | ((with_reducible show DE _ _ (Expr.Call (Expr.Name (Str.ofString "sorted") _) _ _ _) _ _ _); refine de_callB (id := "sorted") rfl (by assumption) (by decide +kernel) (by decide) (by decide) rfl rfl ?_)
  | ((with_reducible show DE _ _ (Expr.Call (Expr.Name (Str.ofString "all") _) _ _ _) _ _ _); refine de_callB (id := "all") rfl (by assumption) (by decide +kernel) (by decide) (by decide) rfl rfl ?_)
  | ((with_reducible show DE _ _ (Expr.Call (Expr.Name (Str.ofString "any") _) _ _ _) _ _ _); refine de_callB (id := "any") rfl (by assumption) (by decide +kernel) (by decide) (by decide) rfl rfl ?_)
  | ((with_reducible show DE _ _ (Expr.Call (Expr.Name (Str.ofString "sum") _) _ _ _) _ _ _); refine de_callB (id := "sum") rfl (by assumption) (by decide +kernel) (by decide) (by decide) rfl rfl ?_)
  | ((with_reducible show DE _ _ (Expr.Call (Expr.Name (Str.ofString "int") _) _ _ _) _ _ _); refine de_callTy (T := "int") rfl (by assumption) (by decide +kernel) (by decide) (by decide) rfl rfl ?_)
  | ((with_reducible show DE _ _ (Expr.Call (Expr.Name (Str.ofString "tuple") _) _ _ _) _ _ _); refine de_callTy (T := "tuple") rfl (by assumption) (by decide +kernel) (by decide) (by decide) rfl rfl ?_)
  | ((with_reducible show DE _ _ (Expr.Call (Expr.Name (Str.ofString "list") _) _ _ _) _ _ _); refine de_callTy (T := "list") rfl (by assumption) (by decide +kernel) (by decide) (by decide) rfl rfl ?_)
  | ((with_reducible show DE _ _ (Expr.Call (Expr.Name (Str.ofString "set") _) _ _ _) _ _ _); refine de_callTy (T := "set") rfl (by assumption) (by decide +kernel) (by decide) (by decide) rfl rfl ?_)
  | ((with_reducible show DE _ _ (Expr.Call (Expr.Name (Str.ofString "str") _) _ _ _) _ _ _); refine de_callTy (T := "str") rfl (by assumption) (by decide +kernel) (by decide) (by decide) rfl rfl ?_))
local macro_rules | `(tactic| walk_at "own") => `(tactic| refine de_own (by assumption) (by assumption) (by assumption) (by decide) rfl (by decide) rfl rfl ?_)
local macro_rules | `(tactic| walk_at "bname") => `(tactic| first
  | ((with_reducible show DE _ _ (Expr.Name (Str.ofString "LETTERS") _) _ _ _); refine de_glob (v := .str abc) rfl (by assumption) ⟨_, rfl⟩ (fun _ => .str _) ?_ (by decide))
  | ((with_reducible show DE _ _ (Expr.Name (Str.ofString "LONGEST_WORD") _) _ _ _); refine de_glob (v := .int 8) rfl (by assumption) ⟨_, rfl⟩ (fun _ => .int _) ?_ (by decide))
  | ((with_reducible show DE _ _ (Expr.Name (Str.ofString "MOST_STATES") _) _ _ _); refine de_glob (v := .int 5) rfl (by assumption) ⟨_, rfl⟩ (fun _ => .int _) ?_ (by decide))
  | ((with_reducible show DE _ _ (Expr.Name (Str.ofString "MOST_ARROWS") _) _ _ _); refine de_glob (v := .int 40) rfl (by assumption) ⟨_, rfl⟩ (fun _ => .int _) ?_ (by decide))
  | ((with_reducible show DE _ _ (Expr.Name (Str.ofString "int") _) _ _ _); refine de_bltn (v := .ty "int") rfl (by assumption) (by decide +kernel) rfl ?_ (by decide) (by decide))
  | ((with_reducible show DE _ _ (Expr.Name (Str.ofString "bool") _) _ _ _); refine de_bltn (v := .ty "bool") rfl (by assumption) (by decide +kernel) rfl ?_ (by decide) (by decide))
  | ((with_reducible show DE _ _ (Expr.Name (Str.ofString "str") _) _ _ _); refine de_bltn (v := .ty "str") rfl (by assumption) (by decide +kernel) rfl ?_ (by decide) (by decide))
  | ((with_reducible show DE _ _ (Expr.Name (Str.ofString "tuple") _) _ _ _); refine de_bltn (v := .ty "tuple") rfl (by assumption) (by decide +kernel) rfl ?_ (by decide) (by decide))
  | ((with_reducible show DE _ _ (Expr.Name (Str.ofString "list") _) _ _ _); refine de_bltn (v := .ty "list") rfl (by assumption) (by decide +kernel) rfl ?_ (by decide) (by decide)))
local macro_rules | `(tactic| walk_at "E") => `(tactic| ((with_reducible show DE _ _ _ _ _ _); first
  | ((with_reducible show DE _ _ (Expr.Name _ _) _ _ _); first | walk_at "name" | walk_at "bname")
  | refine de_int ?_ | refine de_str ?_ | refine de_bl ?_ | refine de_non ?_
  | ((with_reducible show DE _ _ (Expr.Subscript _ (Expr.Tuple _ _ _) _) _ _ _); refine de_dget (by assumption) ?_ (fun _ _ => rfl))
  | ((with_reducible show DE _ _ (Expr.Subscript _ (Expr.Slice _ _ _ _) _) _ _ _); first | refine de_revS ?_ | refine de_slice ?_)
  | refine de_ix ?_ (fun _ _ => rfl)
  | refine de_bin ?_ | refine de_cmp ?_ (by first | exact nomark _ | rfl) | refine de_chain ?_ rfl
  | refine de_one ?_ | refine de_neg ?_ | refine de_and ?_ | refine de_or ?_ | refine de_not ?_ | refine de_if ?_
  | refine de_tup ?_ | refine de_lstP (es := []) ?_ | refine de_lst ?_
  | ((with_reducible show DE _ _ (Expr.Call (Expr.Name _ _) _ _ _) _ _ _); first | walk_at "callB" | walk_at "own")
  | ((with_reducible show DE _ _ (Expr.Call (Expr.Attribute _ (Str.ofString "append") _) _ _ _) _ _ _); refine de_append ?_ rfl rfl rfl rfl rfl)
  | ((with_reducible show DE _ _ (Expr.Call (Expr.Attribute _ (Str.ofString "insert") _) _ _ _) _ _ _); refine de_insert ?_ rfl rfl rfl rfl rfl rfl)))
local macro_rules | `(tactic| walk_at "T") => `(tactic| ((with_reducible show DT _ _ _ _ _ _); first
  | ((with_reducible show DT _ _ (Expr.Compare (Expr.Tuple _ _ _) [CmpOp.In] _ _) _ _ _); refine dt_din (by assumption) ?_ rfl)
  | refine dt_cmp ?_ (by first | exact nomark _ | rfl) | refine dt_chain ?_ rfl | refine dt_not ?_ | refine dt_w (dw_and ?_) | refine dt_w (dw_or ?_) | refine dt_val ?_ (fun _ => rfl)))
local macro_rules | `(tactic| walk_at "W") => `(tactic| ((with_reducible show DW _ _ _ _ _ _); first
  | refine dw_and ?_ | refine dw_or ?_ | refine dw_and1 ?_ | refine dw_or1 ?_))
local macro_rules | `(tactic| walk_at "A") => `(tactic| ((with_reducible show DA _ _ _ _ _ _); first | refine da_nil ?_ | refine da_cons ?_ rfl))
local macro_rules | `(tactic| walk_at "O") => `(tactic| ((with_reducible show BD _ _ _ _ _ _ _ _); first
  | ((with_reducible show BD _ _ (binaryOp Operator.Add) (S.d (D.int _)) (S.d (D.int _)) _ _ _); refine bd_add ?_)
  | ((with_reducible show BD _ _ (binaryOp Operator.Add) (S.d (D.str _)) (S.d (D.str _)) _ _ _); refine bd_addS ?_ ?_)
  | ((with_reducible show BD _ _ (binaryOp Operator.Sub) (S.d (D.int _)) (S.d (D.int _)) _ _ _); refine bd_sub ?_)
  | ((with_reducible show BD _ _ (binaryOp Operator.Mod) (S.d (D.int _)) (S.d (D.int _)) _ _ _); refine bd_mod (by walk_at "side") ?_)
  | ((with_reducible show BD _ _ (binaryOp Operator.Mult) (S.d (D.int _)) (S.d (D.int _)) _ _ _); refine bd_mul ?_ ?_)
  | ((with_reducible show BD _ _ (binaryOp Operator.FloorDiv) (S.d (D.int _)) (S.d (D.int _)) _ _ _); refine bd_fdivW ?_ ?_)
  | ((with_reducible show BD _ _ (binaryOp Operator.Pow) (S.d (D.int _)) (S.d (D.int _)) _ _ _); refine bd_pow ?_ ?_)
  | ((with_reducible show BD _ _ (compareOp CmpOp.Lt) (S.d (D.int _)) (S.d (D.int _)) _ _ _); refine bd_lt ?_)
  | ((with_reducible show BD _ _ (compareOp CmpOp.LtE) (S.d (D.int _)) (S.d (D.int _)) _ _ _); refine bd_le ?_)
  | ((with_reducible show BD _ _ (compareOp CmpOp.Gt) (S.d (D.int _)) (S.d (D.int _)) _ _ _); refine bd_gt ?_)
  | ((with_reducible show BD _ _ (compareOp CmpOp.GtE) (S.d (D.int _)) (S.d (D.int _)) _ _ _); refine bd_ge ?_)
  | ((with_reducible show BD _ _ (compareOp CmpOp.Eq) (S.d (D.int _)) (S.d (D.int _)) _ _ _); refine bd_eqI ?_)
  | ((with_reducible show BD _ _ (compareOp CmpOp.NotEq) (S.d (D.int _)) (S.d (D.int _)) _ _ _); refine bd_neI ?_)
  | ((with_reducible show BD _ _ (compareOp CmpOp.Eq) (S.d (D.str _)) (S.d (D.str _)) _ _ _); refine bd_eqS ?_)
  | ((with_reducible show BD _ _ (compareOp CmpOp.NotEq) (S.d (D.str _)) (S.d (D.str _)) _ _ _); refine bd_neS ?_)))
local macro_rules | `(tactic| walk_at "C") => `(tactic| ((with_reducible show CD _ _ _ _ _ _ _); first
  | ((with_reducible show CD _ _ (Value.type "int") _ _ _ _); refine cd_int ?_)
  | ((with_reducible show CD _ _ (Value.builtin "abs") _ _ _ _); refine cd_abs ?_)
  | ((with_reducible show CD _ _ (Value.builtin "max") _ _ _ _); refine cd_max2 rfl ?_)
  | ((with_reducible show CD _ _ (Value.builtin "min") _ _ _ _); refine cd_min2 rfl ?_)
  | ((with_reducible show CD _ _ (Value.builtin "isinstance") _ _ _ _); refine cd_isiK (by first | rfl | assumption) (by first | decide | exact tyD_six (by assumption)) (by decide) (by decide) ?_)
  | ((with_reducible show CD _ _ (Value.builtin "len") _ _ _ _); first | refine cd_lenT ?_ | refine cd_lenS ?_ ?_ | refine cd_lenP rfl ?_ | refine cd_lenL rfl ?_)
  | ((with_reducible show CD _ _ (Value.type "tuple") _ _ _ _); first | refine cd_tupleT ?_ | refine cd_tuple rfl ?_)))
local macro_rules | `(tactic| walk_at "I") => `(tactic| ((with_reducible show ID _ _ _ _ _ _ _); first
  | refine id_lstP rfl rfl ?_ | refine id_tup rfl ?_ | refine id_lst rfl rfl ?_ | refine id_str ?_ ?_ ?_))
local macro_rules | `(tactic| walk_at "S") => `(tactic| ((with_reducible show DS _ _ _ _ _ _); first
  | ((with_reducible show DS _ _ (Stmt.Assign [Expr.Name _ _] _ _) _ _ _); walk_at "set")
  | refine ds_ret ?_ | refine ds_retN ?_ | refine ds_if ?_ | refine ds_expr ?_ rfl | refine ds_pass ?_ | refine ds_break ?_ | refine ds_continue ?_
  | ((with_reducible show DS _ _ (Stmt.Assign [Expr.Attribute _ _ _] _ _) _ _ _); refine ds_fld ?_ rfl)
  | ((with_reducible show DS _ _ (Stmt.Assign [Expr.Subscript _ (Expr.Tuple _ _ _) _] _ _) _ _ _); refine ds_dput (by assumption) ?_ rfl)
  | ((with_reducible show DS _ _ (Stmt.Assign [Expr.Subscript _ _ _] _ _) _ _ _); refine ds_setL ?_ (fun _ => rfl) rfl rfl rfl) | refine ds_asg ?_ rfl rfl rfl))
local macro_rules | `(tactic| walk_at "B") => `(tactic| ((with_reducible show DB _ _ _ _ _ _); first | refine db_cons ?_ | refine db_nil ?_))
local macro_rules | `(tactic| walk_at "G") => `(tactic| first
  | ((with_reducible show DG _ _ _ _ _ _ _); first | walk_at "gname" | refine dg_tup rfl rfl rfl rfl ?_)
  | ((with_reducible show DGs _ _ _ _ _ _ _); first | refine dgs_nil ?_ | refine dgs_cons ?_ rfl))
local macro_rules | `(tactic| walk_at "X") => `(tactic| first
  | ((with_reducible show ∃ n ss j i, S.p _ = S.p n ∧ _ ∧ _ ∧ _ ∧ _); refine ⟨_, _, _, _, rfl, rfl, rfl, rfl, ?_⟩)
  | ((with_reducible show ∃ n ss, S.p _ = S.p n ∧ _ ∧ _); refine ⟨_, _, rfl, rfl, ?_⟩)
  | ((with_reducible show ∃ n, S.d (D.int _) = S.d (D.int n) ∧ _ ∧ _ ∧ _); refine ⟨_, rfl, ?_, ?_, ?_⟩)
  | ((with_reducible show ∃ b, S.d (D.bl _) = S.d (D.bl b) ∧ _); refine ⟨_, rfl, ?_⟩)
  | ((with_reducible show ∃ b, S.d (D.int _) = S.d (D.int b) ∧ _); refine ⟨_, rfl, ?_⟩))
local macro_rules | `(tactic| walk_at "D") => `(tactic| ((with_reducible show DO _ _ _ _ _ _); first | refine do_none ?_ | refine do_some ?_))
local macro_rules | `(tactic| walk_at "step") => `(tactic| first | walk_at "E" | walk_at "O" | walk_at "I" | walk_at "A" | walk_at "C" | walk_at "B" | walk_at "S" | walk_at "T" | walk_at "W" | walk_at "G" | walk_at "D" | walk_at "X")
local macro_rules | `(tactic| walk_at "go") => `(tactic| repeat walk_at "step")
local macro_rules | `(tactic| walk_at "goE") => `(tactic| repeat (first | walk_at "E" | walk_at "O" | walk_at "I" | walk_at "A" | walk_at "C" | walk_at "T" | walk_at "W" | walk_at "G" | walk_at "D" | walk_at "X"))

namespace T
set_option pp.deepTerms false
set_option pp.deepTerms.threshold 3
section
variable {P : Program} {w : World} {K : PySem.W.Frag} {mg : Str → Option Value} {base : Heap}

abbrev sRoll : Stmt := top 33
theorem scRoll : FnScope ["spring", "many", "digit", "turn", "mixed"] ["spring", "many"] (defScope sRoll) := ⟨rfl, rfl, rfl, by decide +kernel, rfl, by decide +kernel, by decide +kernel⟩
section
local macro_rules | `(tactic| walk_at "name") => `(tactic| first
  | ((with_reducible show DE _ _ (Expr.Name (Str.ofString "spring") _) _ _ _); refine de_name (i := 0) rfl (by walk_at "vis") rfl ?_ (by decide) (by decide))
  | ((with_reducible show DE _ _ (Expr.Name (Str.ofString "many") _) _ _ _); refine de_name (i := 1) rfl (by walk_at "vis") rfl ?_ (by decide) (by decide))
  | ((with_reducible show DE _ _ (Expr.Name (Str.ofString "digit") _) _ _ _); refine de_name (i := 2) rfl (by walk_at "vis") rfl ?_ (by decide) (by decide))
  | ((with_reducible show DE _ _ (Expr.Name (Str.ofString "turn") _) _ _ _); refine de_name (i := 3) rfl (by walk_at "vis") rfl ?_ (by decide) (by decide))
  | ((with_reducible show DE _ _ (Expr.Name (Str.ofString "mixed") _) _ _ _); refine de_name (i := 4) rfl (by walk_at "vis") rfl ?_ (by decide) (by decide)))
local macro_rules | `(tactic| walk_at "set") => `(tactic| first
  | ((with_reducible show DS _ _ (Stmt.Assign [Expr.Name (Str.ofString "spring") _] _ _) _ _ _); refine ds_set (i := 0) ?_ (by assumption) rfl (by walk_at "loc") rfl (by walk_at "loc"))
  | ((with_reducible show DS _ _ (Stmt.Assign [Expr.Name (Str.ofString "many") _] _ _) _ _ _); refine ds_set (i := 1) ?_ (by assumption) rfl (by walk_at "loc") rfl (by walk_at "loc"))
  | ((with_reducible show DS _ _ (Stmt.Assign [Expr.Name (Str.ofString "digit") _] _ _) _ _ _); refine ds_set (i := 2) ?_ (by assumption) rfl (by walk_at "loc") rfl (by walk_at "loc"))
  | ((with_reducible show DS _ _ (Stmt.Assign [Expr.Name (Str.ofString "turn") _] _ _) _ _ _); refine ds_set (i := 3) ?_ (by assumption) rfl (by walk_at "loc") rfl (by walk_at "loc"))
  | ((with_reducible show DS _ _ (Stmt.Assign [Expr.Name (Str.ofString "mixed") _] _ _) _ _ _); refine ds_set (i := 4) ?_ (by assumption) rfl (by walk_at "loc") rfl (by walk_at "loc")))
local macro_rules | `(tactic| walk_at "gname") => `(tactic| first
  | ((with_reducible show DG _ _ (Expr.Name (Str.ofString "spring") _) _ _ _ _); refine dg_name (i := 0) (by assumption) rfl (by walk_at "loc") (by walk_at "loc") ?_)
  | ((with_reducible show DG _ _ (Expr.Name (Str.ofString "many") _) _ _ _ _); refine dg_name (i := 1) (by assumption) rfl (by walk_at "loc") (by walk_at "loc") ?_)
  | ((with_reducible show DG _ _ (Expr.Name (Str.ofString "digit") _) _ _ _ _); refine dg_name (i := 2) (by assumption) rfl (by walk_at "loc") (by walk_at "loc") ?_)
  | ((with_reducible show DG _ _ (Expr.Name (Str.ofString "turn") _) _ _ _ _); refine dg_name (i := 3) (by assumption) rfl (by walk_at "loc") (by walk_at "loc") ?_)
  | ((with_reducible show DG _ _ (Expr.Name (Str.ofString "mixed") _) _ _ _ _); refine dg_name (i := 4) (by assumption) rfl (by walk_at "loc") (by walk_at "loc") ?_))

theorem ok_Roll {f : Addr} {fd : FuncData} (FF : Fun K "_law_roll" "_law_roll" sRoll f fd) (mint : mg "int" = none) : FnG P w K mg base CX0 1 f fd ["spring", "many"] (spOf K 2 sdRoll) := by
  have nd := scRoll.nd
  refine fn_ok FF scRoll ?_
  intro cdv A outer s H E F ss cs Q hr hgu hsd hl hθ
  obtain ⟨n, c, m, rfl, rfl, ⟨a, b, t, rfl, a0, b0, b1, t0, t1⟩, hn, m0, m1, k⟩ := hsd
  walk_at "go"
  refine ⟨fun h => ?_, fun h => ?_⟩
  · have hpos : 0 < a := of_decide_eq_true h
    walk_at "go"
    · exact rets_d rfl (k _ _ (Int.emod_nonneg _ (by omega)) (Int.emod_lt_of_pos _ m0) ⟨a / m, b, t, rfl, Int.ediv_nonneg a0 (by omega), b0, b1, t0, by omega⟩)
    · exact divW m0 (by omega)
  · walk_at "go"
    · exact rets_d rfl (k _ _ (Int.emod_nonneg _ (by omega)) (Int.emod_lt_of_pos _ m0) ⟨a, b, t + 1, rfl, a0, b0, b1, by omega, by omega⟩)
    all_goals first
      | exact divW (by decide) (by decide)
      | exact mulL (by decide) (by decide)
      | exact powW (k := 10) (by decide) (by decide) (by decide) (by decide)
      | exact powW (k := 200) (by decide) (draw_mid b0 b1 (by omega) (by omega)) (by decide) (by decide)
      | exact powW (k := 200) (by decide) (draw_mid2 (mid_lt _).1 (mid_lt _).2 (by omega) (by omega)) (by decide) (by decide)

end

def sdSpr : Sd := fun ss cs Q => ∃ (zs : List Int) (j : Int), ss = [.d (.lst (zs.map D.int)), .d (.int j)] ∧ zs.length ≤ 63 ∧ 0 ≤ j ∧ j < 64 ∧ cs = [] ∧ ∀ c, Spr 0 c → Q (.new c) []
theorem atI_nat {α : Type} {xs : List α} {j : Int} (h0 : 0 ≤ j) (h1 : j < xs.length) : ∃ x, x ∈ xs ∧ xs[j.toNat]? = some x ∧ atI xs j = some x := by
  have hj : j.toNat < xs.length := by omega
  refine ⟨xs[j.toNat], List.getElem_mem hj, List.getElem?_eq_getElem hj, ?_⟩
  unfold atI ixN
  rw [if_pos h0, if_pos h1]
  exact List.getElem?_eq_getElem hj

abbrev sSpr : Stmt := top 32
theorem scSpr : FnScope ["script", "place", "cell", "seed"] ["script", "place"] (defScope sSpr) := ⟨rfl, rfl, rfl, by decide +kernel, rfl, by decide +kernel, by decide +kernel⟩
section
local macro_rules | `(tactic| walk_at "name") => `(tactic| first
  | ((with_reducible show DE _ _ (Expr.Name (Str.ofString "script") _) _ _ _); refine de_name (i := 0) rfl (by walk_at "vis") rfl ?_ (by decide) (by decide))
  | ((with_reducible show DE _ _ (Expr.Name (Str.ofString "place") _) _ _ _); refine de_name (i := 1) rfl (by walk_at "vis") rfl ?_ (by decide) (by decide))
  | ((with_reducible show DE _ _ (Expr.Name (Str.ofString "cell") _) _ _ _); refine de_name (i := 2) rfl (by walk_at "vis") rfl ?_ (by decide) (by decide))
  | ((with_reducible show DE _ _ (Expr.Name (Str.ofString "seed") _) _ _ _); refine de_name (i := 3) rfl (by walk_at "vis") rfl ?_ (by decide) (by decide)))
local macro_rules | `(tactic| walk_at "set") => `(tactic| first
  | ((with_reducible show DS _ _ (Stmt.Assign [Expr.Name (Str.ofString "script") _] _ _) _ _ _); refine ds_set (i := 0) ?_ (by assumption) rfl (by walk_at "loc") rfl (by walk_at "loc"))
  | ((with_reducible show DS _ _ (Stmt.Assign [Expr.Name (Str.ofString "place") _] _ _) _ _ _); refine ds_set (i := 1) ?_ (by assumption) rfl (by walk_at "loc") rfl (by walk_at "loc"))
  | ((with_reducible show DS _ _ (Stmt.Assign [Expr.Name (Str.ofString "cell") _] _ _) _ _ _); refine ds_set (i := 2) ?_ (by assumption) rfl (by walk_at "loc") rfl (by walk_at "loc"))
  | ((with_reducible show DS _ _ (Stmt.Assign [Expr.Name (Str.ofString "seed") _] _ _) _ _ _); refine ds_set (i := 3) ?_ (by assumption) rfl (by walk_at "loc") rfl (by walk_at "loc")))
local macro_rules | `(tactic| walk_at "gname") => `(tactic| first
  | ((with_reducible show DG _ _ (Expr.Name (Str.ofString "script") _) _ _ _ _); refine dg_name (i := 0) (by assumption) rfl (by walk_at "loc") (by walk_at "loc") ?_)
  | ((with_reducible show DG _ _ (Expr.Name (Str.ofString "place") _) _ _ _ _); refine dg_name (i := 1) (by assumption) rfl (by walk_at "loc") (by walk_at "loc") ?_)
  | ((with_reducible show DG _ _ (Expr.Name (Str.ofString "cell") _) _ _ _ _); refine dg_name (i := 2) (by assumption) rfl (by walk_at "loc") (by walk_at "loc") ?_)
  | ((with_reducible show DG _ _ (Expr.Name (Str.ofString "seed") _) _ _ _ _); refine dg_name (i := 3) (by assumption) rfl (by walk_at "loc") (by walk_at "loc") ?_))

local macro_rules | `(tactic| walk_at "E") => `(tactic| ((with_reducible show DE _ _ (Expr.List _ _) _ _ _); refine de_lstP ?_))
theorem ok_Spr {f : Addr} {fd : FuncData} (FF : Fun K "_law_spring" "_law_spring" sSpr f fd) (m1 : mg "int" = none) (m2 : mg "len" = none) (m3 : mg "max" = none) (m4 : mg "abs" = none) : FnG P w K mg base CX0 1 f fd ["script", "place"] (spOf K 2 sdSpr) := by
  have nd := scSpr.nd
  refine fn_ok FF scSpr ?_
  intro cdv A outer s H E F ss cs Q hr hgu hsd hl hθ
  obtain ⟨zs, j, rfl, hz, j0, j1, rfl, k⟩ := hsd
  have fin : ∀ (ρ' : Rho) (z : Int), ρ' = [some (.d (.lst (zs.map D.int))), some (.d (.int j)), some (.d (.int z)), none] → DB F (cxOf CX0 P w K mg base ["script", "place", "cell", "seed"] "_law_spring" (defScope sSpr) f cdv A outer s H E).nox ((defBody sSpr).drop 2) ρ' [] { nx := fun _ M => RetS 0 (.d .non) M Q, rt := fun t M => RetS 0 t M Q } := by
    rintro ρ' z rfl
    walk_at "go"
    · refine ⟨show 3 ≤ sizeLine by decide, ?_⟩
      refine rets_p rfl (Nat.le_refl _) rfl rfl (k _ ⟨_, _, 0, rfl, ?_, ?_, ?_, Int.le_refl _, Int.le_refl _⟩)
      · omega
      · exact Int.emod_nonneg _ (by decide)
      · exact Int.lt_trans (Int.emod_lt_of_pos _ (by decide)) (by decide)
    all_goals first
      | exact mulR (by decide) (by decide)
      | exact powW (k := 10) (by decide) (by decide) (by decide) (by decide)
  walk_at "go"
  refine ⟨fun h => ?_, fun h => ?_⟩
  · have h := of_decide_eq_true h
    walk_at "go"
    obtain ⟨x, hx, _, ex⟩ := atI_nat j0 h
    obtain ⟨z, _, rfl⟩ := List.mem_map.mp hx
    refine id_lst rfl ex ?_
    walk_at "goE"
    refine db_nil ?_
    exact fin _ z rfl
  · refine db_nil ?_
    exact fin _ 0 rfl

end
end
end T
end

section
set_option Elab.async false
set_option linter.all false
set_option maxRecDepth 100000
set_option maxHeartbeats 2000000
open PySem PySem.Spec PyProof.Rows L2 DL

local macro_rules | `(tactic| walk_at "vis") => `(tactic| first | exact Or.inl rfl | exact Or.inr (Or.inl rfl) | exact Or.inr (Or.inr rfl))
local macro_rules | `(tactic| walk_at "loc") => `(tactic| first | exact Or.inl rfl | exact Or.inr rfl)
local macro_rules | `(tactic| walk_at "side") => `(tactic| first | assumption | omega | decide)
local macro_rules | `(tactic| walk_at "callB") => `(tactic| first
  | ((with_reducible show DE _ _ (Expr.Call (Expr.Name (Str.ofString "len") _) _ _ _) _ _ _); refine de_callB (id := "len") rfl (by assumption) (by decide +kernel) (by decide) (by decide) rfl rfl ?_)
  | ((with_reducible show DE _ _ (Expr.Call (Expr.Name (Str.ofString "max") _) _ _ _) _ _ _); refine de_callB (id := "max") rfl (by assumption) (by decide +kernel) (by decide) (by decide) rfl rfl ?_)
  | ((with_reducible show DE _ _ (Expr.Call (Expr.Name (Str.ofString "min") _) _ _ _) _ _ _); refine de_callB (id := "min") rfl (by assumption) (by decide +kernel) (by decide) (by decide) rfl rfl ?_)
  | ((with_reducible show DE _ _ (Expr.Call (Expr.Name (Str.ofString "abs") _) _ _ _) _ _ _); refine de_callB (id := "abs") rfl (by assumption) (by decide +kernel) (by decide) (by decide) rfl rfl ?_)
  | ((with_reducible show DE _ _ (Expr.Call (Expr.Name (Str.ofString "repr") _) _ _ _) _ _ _); refine de_callB (id := "repr") rfl (by assumption) (by decide +kernel) (by decide) (by decide) rfl rfl ?_)
  | ((with_reducible show DE _ _ (Expr.Call (Expr.Name (Str.ofString "isinstance") _) _ _ _) _ _ _); refine de_callB (id := "isinstance") rfl (by assumption) (by decide +kernel) (by decide) (by decide) rfl rfl ?_)
  | ((with_reducible show DE _ _ (Expr.Call (Expr.Name (Str.ofString "sorted") _) _ _ _) _ _ _); refine de_callB (id := "sorted") rfl (by assumption) (by decide +kernel) (by decide) (by decide) rfl rfl ?_)
  | ((with_reducible show DE _ _ (Expr.Call (Expr.Name (Str.ofString "all") _) _ _ _) _ _ _); refine de_callB (id := "all") rfl (by assumption) (by decide +kernel) (by decide) (by decide) rfl rfl ?_)
  | ((with_reducible show DE _ _ (Expr.Call (Expr.Name (Str.ofString "any") _) _ _ _) _ _ _); refine de_callB (id := "any") rfl (by assumption) (by decide +kernel) (by decide) (by decide) rfl rfl ?_)
  | ((with_reducible show DE _ _ (Expr.Call (Expr.Name (Str.ofString "sum") _) _ _ _) _ _ _); refine de_callB (id := "sum") rfl (by assumption) (by decide +kernel) (by decide) (by decide) rfl rfl ?_)
  | ((with_reducible show DE _ _ (Expr.Call (Expr.Name (Str.ofString "int") _) _ _ _) _ _ _); refine de_callTy (T := "int") rfl (by assumption) (by decide +kernel) (by decide) (by decide) rfl rfl ?_)
  | ((with_reducible show DE _ _ (Expr.Call (Expr.Name (Str.ofString "tuple") _) _ _ _) _ _ _); refine de_callTy (T := "tuple") rfl (by assumption) (by decide +kernel) (by decide) (by decide) rfl rfl ?_)
  | ((with_reducible show DE _ _ (Expr.Call (Expr.Name (Str.ofString "list") _) _ _ _) _ _ _); refine de_callTy (T := "list") rfl (by assumption) (by decide +kernel) (by decide) (by decide) rfl rfl ?_)
  | ((with_reducible show DE _ _ (Expr.Call (Expr.Name (Str.ofString "set") _) _ _ _) _ _ _); refine de_callTy (T := "set") rfl (by assumption) (by decide +kernel) (by decide) (by decide) rfl rfl ?_)
  | ((with_reducible show DE _ _ (Expr.Call (Expr.Name (Str.ofString "str") _) _ _ _) _ _ _); refine de_callTy (T := "str") rfl (by assumption) (by decide +kernel) (by decide) (by decide) rfl rfl ?_))
local macro_rules | `(tactic| walk_at "own") => `(tactic| refine de_own (by assumption) (by assumption) (by assumption) (by decide) rfl (by decide) rfl rfl ?_)
local macro_rules | `(tactic| walk_at "bname") => `(tactic| first
  | ((with_reducible show DE _ _ (Expr.Name (Str.ofString "LETTERS") _) _ _ _); refine de_glob (v := .str abc) rfl (by assumption) ⟨_, rfl⟩ (fun _ => .str _) ?_ (by decide))
  | ((with_reducible show DE _ _ (Expr.Name (Str.ofString "LONGEST_WORD") _) _ _ _); refine de_glob (v := .int 8) rfl (by assumption) ⟨_, rfl⟩ (fun _ => .int _) ?_ (by decide))
  | ((with_reducible show DE _ _ (Expr.Name (Str.ofString "MOST_STATES") _) _ _ _); refine de_glob (v := .int 5) rfl (by assumption) ⟨_, rfl⟩ (fun _ => .int _) ?_ (by decide))
  | ((with_reducible show DE _ _ (Expr.Name (Str.ofString "MOST_ARROWS") _) _ _ _); refine de_glob (v := .int 40) rfl (by assumption) ⟨_, rfl⟩ (fun _ => .int _) ?_ (by decide))
  | ((with_reducible show DE _ _ (Expr.Name (Str.ofString "int") _) _ _ _); refine de_bltn (v := .ty "int") rfl (by assumption) (by decide +kernel) rfl ?_ (by decide) (by decide))
  | ((with_reducible show DE _ _ (Expr.Name (Str.ofString "bool") _) _ _ _); refine de_bltn (v := .ty "bool") rfl (by assumption) (by decide +kernel) rfl ?_ (by decide) (by decide))
  | ((with_reducible show DE _ _ (Expr.Name (Str.ofString "str") _) _ _ _); refine de_bltn (v := .ty "str") rfl (by assumption) (by decide +kernel) rfl ?_ (by decide) (by decide))
  | ((with_reducible show DE _ _ (Expr.Name (Str.ofString "tuple") _) _ _ _); refine de_bltn (v := .ty "tuple") rfl (by assumption) (by decide +kernel) rfl ?_ (by decide) (by decide))
  | ((with_reducible show DE _ _ (Expr.Name (Str.ofString "list") _) _ _ _); refine de_bltn (v := .ty "list") rfl (by assumption) (by decide +kernel) rfl ?_ (by decide) (by decide)))
local macro_rules | `(tactic| walk_at "E") => `(tactic| ((with_reducible show DE _ _ _ _ _ _); first
  | ((with_reducible show DE _ _ (Expr.Name _ _) _ _ _); first | walk_at "name" | walk_at "bname")
  | refine de_int ?_ | refine de_str ?_ | refine de_bl ?_ | refine de_non ?_
  | ((with_reducible show DE _ _ (Expr.Subscript _ (Expr.Tuple _ _ _) _) _ _ _); refine de_dget (by assumption) ?_ (fun _ _ => rfl))
  | ((with_reducible show DE _ _ (Expr.Subscript _ (Expr.Slice _ _ _ _) _) _ _ _); first | refine de_revS ?_ | refine de_slice ?_)
  | refine de_ix ?_ (fun _ _ => rfl)
  | refine de_bin ?_ | refine de_cmp ?_ (by first | exact nomark _ | rfl) | refine de_chain ?_ rfl
  | refine de_one ?_ | refine de_neg ?_ | refine de_and ?_ | refine de_or ?_ | refine de_not ?_ | refine de_if ?_
  | refine de_tup ?_ | refine de_lstP (es := []) ?_ | refine de_lst ?_
  | ((with_reducible show DE _ _ (Expr.Call (Expr.Name _ _) _ _ _) _ _ _); first | walk_at "callB" | walk_at "own")
  | ((with_reducible show DE _ _ (Expr.Call (Expr.Attribute _ (Str.ofString "append") _) _ _ _) _ _ _); refine de_append ?_ rfl rfl rfl rfl rfl)
  | ((with_reducible show DE _ _ (Expr.Call (Expr.Attribute _ (Str.ofString "insert") _) _ _ _) _ _ _); refine de_insert ?_ rfl rfl rfl rfl rfl rfl)))
local macro_rules | `(tactic| walk_at "T") => `(tactic| ((with_reducible show DT _ _ _ _ _ _); first
  | ((with_reducible show DT _ _ (Expr.Compare (Expr.Tuple _ _ _) [CmpOp.In] _ _) _ _ _); refine dt_din (by assumption) ?_ rfl)
  | refine dt_cmp ?_ (by first | exact nomark _ | rfl) | refine dt_chain ?_ rfl | refine dt_not ?_ | refine dt_w (dw_and ?_) | refine dt_w (dw_or ?_) | refine dt_val ?_ (fun _ => rfl)))
local macro_rules | `(tactic| walk_at "W") => `(tactic| ((with_reducible show DW _ _ _ _ _ _); first
  | refine dw_and ?_ | refine dw_or ?_ | refine dw_and1 ?_ | refine dw_or1 ?_))
local macro_rules | `(tactic| walk_at "A") => `(tactic| ((with_reducible show DA _ _ _ _ _ _); first | refine da_nil ?_ | refine da_cons ?_ rfl))
local macro_rules | `(tactic| walk_at "O") => `(tactic| ((with_reducible show BD _ _ _ _ _ _ _ _); first
  | ((with_reducible show BD _ _ (binaryOp Operator.Add) (S.d (D.int _)) (S.d (D.int _)) _ _ _); refine bd_add ?_)
  | ((with_reducible show BD _ _ (binaryOp Operator.Add) (S.d (D.str _)) (S.d (D.str _)) _ _ _); refine bd_addS ?_ ?_)
  | ((with_reducible show BD _ _ (binaryOp Operator.Sub) (S.d (D.int _)) (S.d (D.int _)) _ _ _); refine bd_sub ?_)
  | ((with_reducible show BD _ _ (binaryOp Operator.Mod) (S.d (D.int _)) (S.d (D.int _)) _ _ _); refine bd_mod (by walk_at "side") ?_)
  | ((with_reducible show BD _ _ (binaryOp Operator.Mult) (S.d (D.int _)) (S.d (D.int _)) _ _ _); refine bd_mul ?_ ?_)
  | ((with_reducible show BD _ _ (binaryOp Operator.FloorDiv) (S.d (D.int _)) (S.d (D.int _)) _ _ _); refine bd_fdivW ?_ ?_)
  | ((with_reducible show BD _ _ (binaryOp Operator.Pow) (S.d (D.int _)) (S.d (D.int _)) _ _ _); refine bd_pow ?_ ?_)
  | ((with_reducible show BD _ _ (compareOp CmpOp.Lt) (S.d (D.int _)) (S.d (D.int _)) _ _ _); refine bd_lt ?_)
  | ((with_reducible show BD _ _ (compareOp CmpOp.LtE) (S.d (D.int _)) (S.d (D.int _)) _ _ _); refine bd_le ?_)
  | ((with_reducible show BD _ _ (compareOp CmpOp.Gt) (S.d (D.int _)) (S.d (D.int _)) _ _ _); refine bd_gt ?_)
  | ((with_reducible show BD _ _ (compareOp CmpOp.GtE) (S.d (D.int _)) (S.d (D.int _)) _ _ _); refine bd_ge ?_)
  | ((with_reducible show BD _ _ (compareOp CmpOp.Eq) (S.d (D.int _)) (S.d (D.int _)) _ _ _); refine bd_eqI ?_)
  | ((with_reducible show BD _ _ (compareOp CmpOp.NotEq) (S.d (D.int _)) (S.d (D.int _)) _ _ _); refine bd_neI ?_)
  | ((with_reducible show BD _ _ (compareOp CmpOp.Eq) (S.d (D.str _)) (S.d (D.str _)) _ _ _); refine bd_eqS ?_)
  | ((with_reducible show BD _ _ (compareOp CmpOp.NotEq) (S.d (D.str _)) (S.d (D.str _)) _ _ _); refine bd_neS ?_)))
local macro_rules | `(tactic| walk_at "C") => `(tactic| ((with_reducible show CD _ _ _ _ _ _ _); first
  | ((with_reducible show CD _ _ (Value.type "int") _ _ _ _); refine cd_int ?_)
  | ((with_reducible show CD _ _ (Value.builtin "abs") _ _ _ _); refine cd_abs ?_)
  | ((with_reducible show CD _ _ (Value.builtin "max") _ _ _ _); refine cd_max2 rfl ?_)
  | ((with_reducible show CD _ _ (Value.builtin "min") _ _ _ _); refine cd_min2 rfl ?_)
  | ((with_reducible show CD _ _ (Value.builtin "isinstance") _ _ _ _); refine cd_isiK (by first | rfl | assumption) (by first | decide | exact tyD_six (by assumption)) (by decide) (by decide) ?_)
  | ((with_reducible show CD _ _ (Value.builtin "len") _ _ _ _); first | refine cd_lenT ?_ | refine cd_lenS ?_ ?_ | refine cd_lenP rfl ?_ | refine cd_lenL rfl ?_)
  | ((with_reducible show CD _ _ (Value.type "tuple") _ _ _ _); first | refine cd_tupleT ?_ | refine cd_tuple rfl ?_)))
local macro_rules | `(tactic| walk_at "I") => `(tactic| ((with_reducible show ID _ _ _ _ _ _ _); first
  | refine id_lstP rfl rfl ?_ | refine id_tup rfl ?_ | refine id_lst rfl rfl ?_ | refine id_str ?_ ?_ ?_))
local macro_rules | `(tactic| walk_at "S") => `(tactic| ((with_reducible show DS _ _ _ _ _ _); first
  | ((with_reducible show DS _ _ (Stmt.Assign [Expr.Name _ _] _ _) _ _ _); walk_at "set")
  | refine ds_ret ?_ | refine ds_retN ?_ | refine ds_if ?_ | refine ds_expr ?_ rfl | refine ds_pass ?_ | refine ds_break ?_ | refine ds_continue ?_
  | ((with_reducible show DS _ _ (Stmt.Assign [Expr.Attribute _ _ _] _ _) _ _ _); refine ds_fld ?_ rfl)
  | ((with_reducible show DS _ _ (Stmt.Assign [Expr.Subscript _ (Expr.Tuple _ _ _) _] _ _) _ _ _); refine ds_dput (by assumption) ?_ rfl)
  | ((with_reducible show DS _ _ (Stmt.Assign [Expr.Subscript _ _ _] _ _) _ _ _); refine ds_setL ?_ (fun _ => rfl) rfl rfl rfl) | refine ds_asg ?_ rfl rfl rfl))
local macro_rules | `(tactic| walk_at "B") => `(tactic| ((with_reducible show DB _ _ _ _ _ _); first | refine db_cons ?_ | refine db_nil ?_))
local macro_rules | `(tactic| walk_at "G") => `(tactic| first
  | ((with_reducible show DG _ _ _ _ _ _ _); first | walk_at "gname" | refine dg_tup rfl rfl rfl rfl ?_)
  | ((with_reducible show DGs _ _ _ _ _ _ _); first | refine dgs_nil ?_ | refine dgs_cons ?_ rfl))
local macro_rules | `(tactic| walk_at "X") => `(tactic| first
  | ((with_reducible show ∃ n ss j i, S.p _ = S.p n ∧ _ ∧ _ ∧ _ ∧ _); refine ⟨_, _, _, _, rfl, rfl, rfl, rfl, ?_⟩)
  | ((with_reducible show ∃ n ss, S.p _ = S.p n ∧ _ ∧ _); refine ⟨_, _, rfl, rfl, ?_⟩)
  | ((with_reducible show ∃ n, S.d (D.int _) = S.d (D.int n) ∧ _ ∧ _ ∧ _); refine ⟨_, rfl, ?_, ?_, ?_⟩)
  | ((with_reducible show ∃ b, S.d (D.bl _) = S.d (D.bl b) ∧ _); refine ⟨_, rfl, ?_⟩)
  | ((with_reducible show ∃ b, S.d (D.int _) = S.d (D.int b) ∧ _); refine ⟨_, rfl, ?_⟩))
local macro_rules | `(tactic| walk_at "D") => `(tactic| ((with_reducible show DO _ _ _ _ _ _); first | refine do_none ?_ | refine do_some ?_))
local macro_rules | `(tactic| walk_at "step") => `(tactic| first | walk_at "E" | walk_at "O" | walk_at "I" | walk_at "A" | walk_at "C" | walk_at "B" | walk_at "S" | walk_at "T" | walk_at "W" | walk_at "G" | walk_at "D" | walk_at "X")
local macro_rules | `(tactic| walk_at "go") => `(tactic| repeat walk_at "step")
local macro_rules | `(tactic| walk_at "goE") => `(tactic| repeat (first | walk_at "E" | walk_at "O" | walk_at "I" | walk_at "A" | walk_at "C" | walk_at "T" | walk_at "W" | walk_at "G" | walk_at "D" | walk_at "X"))

namespace T
set_option pp.deepTerms false
set_option pp.deepTerms.threshold 3
section
variable {P : Program} {w : World} {K : PySem.W.Frag} {mg : Str → Option Value} {base : Heap}


def sdOf : Sd := fun ss cs Q => ∃ (n : Nat) (c : C) (xs : List D), ss = [.p 0, .d (.lst xs)] ∧ cs = [c] ∧ Spr n c ∧ n < 2 ^ 60 ∧ 0 < xs.length ∧ xs.length < 2 ^ 29 ∧ ∀ x c', x ∈ xs → Spr (n + 1) c' → Q (.d x) [c']

abbrev sOf : Stmt := top 34
theorem scOf : FnScope ["spring", "some"] ["spring", "some"] (defScope sOf) := ⟨rfl, rfl, rfl, by decide +kernel, rfl, by decide +kernel, by decide +kernel⟩
section
local macro_rules | `(tactic| walk_at "name") => `(tactic| first
  | ((with_reducible show DE _ _ (Expr.Name (Str.ofString "spring") _) _ _ _); refine de_name (i := 0) rfl (by walk_at "vis") rfl ?_ (by decide) (by decide))
  | ((with_reducible show DE _ _ (Expr.Name (Str.ofString "some") _) _ _ _); refine de_name (i := 1) rfl (by walk_at "vis") rfl ?_ (by decide) (by decide)))
local macro_rules | `(tactic| walk_at "set") => `(tactic| first
  | ((with_reducible show DS _ _ (Stmt.Assign [Expr.Name (Str.ofString "spring") _] _ _) _ _ _); refine ds_set (i := 0) ?_ (by assumption) rfl (by walk_at "loc") rfl (by walk_at "loc"))
  | ((with_reducible show DS _ _ (Stmt.Assign [Expr.Name (Str.ofString "some") _] _ _) _ _ _); refine ds_set (i := 1) ?_ (by assumption) rfl (by walk_at "loc") rfl (by walk_at "loc")))
local macro_rules | `(tactic| walk_at "gname") => `(tactic| first
  | ((with_reducible show DG _ _ (Expr.Name (Str.ofString "spring") _) _ _ _ _); refine dg_name (i := 0) (by assumption) rfl (by walk_at "loc") (by walk_at "loc") ?_)
  | ((with_reducible show DG _ _ (Expr.Name (Str.ofString "some") _) _ _ _ _); refine dg_name (i := 1) (by assumption) rfl (by walk_at "loc") (by walk_at "loc") ?_))

theorem ok_Of {f : Addr} {fd : FuncData} (FF : Fun K "_law_of" "_law_of" sOf f fd) (m1 : mg "len" = none) (c1 : Cal P w K mg base 1 "_law_roll" ["spring", "many"] sdRoll) : FnG P w K mg base CX0 2 f fd ["spring", "some"] (spOf K 2 sdOf) := by
  have nd := scOf.nd
  refine fn_ok FF scOf ?_
  intro cdv A outer s H E F ss cs Q hr hgu hsd hl hθ
  obtain ⟨n, c, xs, rfl, rfl, hs, hn, x0, x1, k⟩ := hsd
  walk_at "go"
  refine spd1' (n := 0) rfl hs.flat rfl rfl ⟨n, c, _, rfl, rfl, hs, hn, by omega, by omega, fun r c' r0 r1 h' => ⟨c', rfl, got_d ?_⟩⟩
  obtain ⟨x, hx, _, ex⟩ := atI_nat r0 r1
  refine id_lst rfl ex ?_
  exact rets_d (by simp [h'.flat]) (k x c' hx h')

end

def lowB (z : Str) : Bool := z.cps.toList.all fun c => decide (c ∈ abc.cps.toList)
theorem word_of {z : Str} (h1 : 1 ≤ z.length) (h2 : z.length ≤ 8) (h : lowB z = true) : wordB z = true := by
  unfold wordB
  rw [show (z.cps.toList.all fun c => decide (c ∈ abc.cps.toList)) = true from h]
  simp
  omega
theorem low_of {z : Str} (h : wordB z = true) : lowB z = true ∧ 1 ≤ z.length ∧ z.length ≤ 8 := by
  unfold wordB at h
  simp only [Bool.and_eq_true, decide_eq_true_eq] at h
  exact ⟨h.2, by omega, by omega⟩
theorem app_cps (x y : Str) : (x ++ y).cps.toList = x.cps.toList ++ y.cps.toList := by
  show (x.cps ++ y.cps).toList = _
  simp
theorem low_app {x y : Str} (h1 : lowB x = true) (h2 : lowB y = true) : lowB (x ++ y) = true := by
  unfold lowB at *
  rw [app_cps, List.all_append, h1, h2]
  rfl
theorem len_app (x y : Str) : (x ++ y).length = x.length + y.length := by
  show (x.cps ++ y.cps).size = _
  simp [Str.length]
def sdWord : Sd := fun ss cs Q => ∃ (n : Nat) (c : C), ss = [.p 0] ∧ cs = [c] ∧ Spr n c ∧ n + 20 < 2 ^ 60 ∧ ∀ z c', wordB z = true → Spr (n + 9) c' → Q (.d (.str z)) [c']

abbrev sWord : Stmt := top 35
theorem scWord : FnScope ["spring", "letters", "found", "k"] ["spring"] (defScope sWord) := ⟨rfl, rfl, rfl, by decide +kernel, rfl, by decide +kernel, by decide +kernel⟩
section
local macro_rules | `(tactic| walk_at "name") => `(tactic| first
  | ((with_reducible show DE _ _ (Expr.Name (Str.ofString "spring") _) _ _ _); refine de_name (i := 0) rfl (by walk_at "vis") rfl ?_ (by decide) (by decide))
  | ((with_reducible show DE _ _ (Expr.Name (Str.ofString "letters") _) _ _ _); refine de_name (i := 1) rfl (by walk_at "vis") rfl ?_ (by decide) (by decide))
  | ((with_reducible show DE _ _ (Expr.Name (Str.ofString "found") _) _ _ _); refine de_name (i := 2) rfl (by walk_at "vis") rfl ?_ (by decide) (by decide))
  | ((with_reducible show DE _ _ (Expr.Name (Str.ofString "k") _) _ _ _); refine de_name (i := 3) rfl (by walk_at "vis") rfl ?_ (by decide) (by decide)))
local macro_rules | `(tactic| walk_at "set") => `(tactic| first
  | ((with_reducible show DS _ _ (Stmt.Assign [Expr.Name (Str.ofString "spring") _] _ _) _ _ _); refine ds_set (i := 0) ?_ (by assumption) rfl (by walk_at "loc") rfl (by walk_at "loc"))
  | ((with_reducible show DS _ _ (Stmt.Assign [Expr.Name (Str.ofString "letters") _] _ _) _ _ _); refine ds_set (i := 1) ?_ (by assumption) rfl (by walk_at "loc") rfl (by walk_at "loc"))
  | ((with_reducible show DS _ _ (Stmt.Assign [Expr.Name (Str.ofString "found") _] _ _) _ _ _); refine ds_set (i := 2) ?_ (by assumption) rfl (by walk_at "loc") rfl (by walk_at "loc"))
  | ((with_reducible show DS _ _ (Stmt.Assign [Expr.Name (Str.ofString "k") _] _ _) _ _ _); refine ds_set (i := 3) ?_ (by assumption) rfl (by walk_at "loc") rfl (by walk_at "loc")))
local macro_rules | `(tactic| walk_at "gname") => `(tactic| first
  | ((with_reducible show DG _ _ (Expr.Name (Str.ofString "spring") _) _ _ _ _); refine dg_name (i := 0) (by assumption) rfl (by walk_at "loc") (by walk_at "loc") ?_)
  | ((with_reducible show DG _ _ (Expr.Name (Str.ofString "letters") _) _ _ _ _); refine dg_name (i := 1) (by assumption) rfl (by walk_at "loc") (by walk_at "loc") ?_)
  | ((with_reducible show DG _ _ (Expr.Name (Str.ofString "found") _) _ _ _ _); refine dg_name (i := 2) (by assumption) rfl (by walk_at "loc") (by walk_at "loc") ?_)
  | ((with_reducible show DG _ _ (Expr.Name (Str.ofString "k") _) _ _ _ _); refine dg_name (i := 3) (by assumption) rfl (by walk_at "loc") (by walk_at "loc") ?_))

theorem ok_Word {f : Addr} {fd : FuncData} (FF : Fun K "_law_word" "_law_word" sWord f fd) (m1 : mg "range" = none) (c1 : Cal P w K mg base 1 "_law_roll" ["spring", "many"] sdRoll) (c2 : Cal P w K mg base 2 "_law_of" ["spring", "some"] sdOf) : FnG P w K mg base CX0 3 f fd ["spring"] (spOf K 1 sdWord) := by
  have nd := scWord.nd
  refine fn_ok FF scWord ?_
  intro cdv A outer s H E F ss cs Q hr hgu hsd hl hθ
  obtain ⟨n, c, rfl, rfl, hs, hn, k⟩ := hsd
  walk_at "go"
  refine ⟨_, rfl, show 2 ≤ sizeLine by decide, ?_⟩
  walk_at "go"
  refine ds_forR PassesOwn.never rfl rfl m1 (fun _ => rfl) rfl ?_
  walk_at "go"
  refine ⟨_, rfl, show 7 ≤ sizeLine by decide, ?_⟩
  walk_at "go"
  refine spd1' (n := 0) rfl hs.flat rfl rfl ⟨n, c, _, rfl, rfl, hs, by omega, show 0 < 7 by decide, show 7 < 2 ^ 29 by decide, fun x c' hx h' => ⟨c', rfl, got_d ?_⟩⟩
  have ex : ∃ m : Int, x = .int m ∧ 1 ≤ m ∧ m ≤ 8 := by
    simp only [List.mem_cons, List.not_mem_nil, or_false] at hx
    rcases hx with rfl | rfl | rfl | rfl | rfl | rfl | rfl
    all_goals exact ⟨_, rfl, by decide, by decide⟩
  obtain ⟨m, rfl, q1, q8⟩ := ex
  refine ⟨m, rfl, by omega, by omega, fun i ρ M => ∃ (z : Str) (x : Option S) (c : C), ρ = [some (.p 0), some (.d (.str abc)), some (.d (.str z)), x] ∧ M = [c] ∧ z.length = i ∧ lowB z = true ∧ Spr (n + 1 + i) c, ⟨_, _, c', rfl, rfl, rfl, rfl, h'⟩, ?_, ?_⟩
  · rintro i ρ' M' hi ⟨z, x, c, rfl, rfl, hz, lz, hs⟩
    walk_at "go"
    refine spd1' (n := 0) rfl hs.flat rfl rfl ⟨n + 1 + i, c, _, rfl, rfl, hs, by omega, by decide, by decide, fun r c' r0 r1 h' => ⟨c', rfl, got_d ?_⟩⟩
    obtain ⟨u, hu, _, eu⟩ := atI_nat (xs := abc.cps.toList) r0 (by rw [show abc.cps.toList.length = 26 by decide]; exact r1)
    refine id_str (show abc.length ≤ sizeLine by decide) eu ?_
    walk_at "go"
    · refine ⟨z ++ sg u, _, c', rfl, rfl, ?_, low_app lz ?_, by rw [show n + 1 + (i + 1) = n + 1 + i + 1 by omega]; exact h'⟩
      · rw [len_app, hz]; rfl
      · unfold lowB
        simpa using hu
    · rw [hz, sizeLine_eq]
      show i + 1 ≤ _
      omega
  · rintro ρ' M' ⟨z, x, c, rfl, rfl, hz, lz, hs⟩
    walk_at "go"
    refine rets_d (by simp [hs.flat]) (k z c (word_of (by omega) (by omega) lz) (hs.mono (by omega)))

end
end
end T
end

section
set_option Elab.async false
set_option linter.all false
set_option maxRecDepth 100000
set_option maxHeartbeats 2000000
open PySem PySem.Spec PyProof.Rows L2 DL

local macro_rules | `(tactic| walk_at "vis") => `(tactic| first | exact Or.inl rfl | exact Or.inr (Or.inl rfl) | exact Or.inr (Or.inr rfl))
local macro_rules | `(tactic| walk_at "loc") => `(tactic| first | exact Or.inl rfl | exact Or.inr rfl)
local macro_rules | `(tactic| walk_at "side") => `(tactic| first | assumption | omega | decide)
local macro_rules | `(tactic| walk_at "callB") => `(tactic| first
  | ((with_reducible show DE _ _ (Expr.Call (Expr.Name (Str.ofString "len") _) _ _ _) _ _ _); refine de_callB (id := "len") rfl (by assumption) (by decide +kernel) (by decide) (by decide) rfl rfl ?_)
  | ((with_reducible show DE _ _ (Expr.Call (Expr.Name (Str.ofString "max") _) _ _ _) _ _ _); refine de_callB (id := "max") rfl (by assumption) (by decide +kernel) (by decide) (by decide) rfl rfl ?_)
  | ((with_reducible show DE _ _ (Expr.Call (Expr.Name (Str.ofString "min") _) _ _ _) _ _ _); refine de_callB (id := "min") rfl (by assumption) (by decide +kernel) (by decide) (by decide) rfl rfl ?_)
  | ((with_reducible show DE _ _ (Expr.Call (Expr.Name (Str.ofString "abs") _) _ _ _) _ _ _); refine de_callB (id := "abs") rfl (by assumption) (by decide +kernel) (by decide) (by decide) rfl rfl ?_)
  | ((with_reducible show DE _ _ (Expr.Call (Expr.Name (Str.ofString "repr") _) _ _ _) _ _ _); refine de_callB (id := "repr") rfl (by assumption) (by decide +kernel) (by decide) (by decide) rfl rfl ?_)
  | ((with_reducible show DE _ _ (Expr.Call (Expr.Name (Str.ofString "isinstance") _) _ _ _) _ _ _); refine de_callB (id := "isinstance") rfl (by assumption) (by decide +kernel) (by decide) (by decide) rfl rfl ?_)
  | ((with_reducible show DE _ _ (Expr.Call (Expr.Name (Str.ofString "sorted") _) _ _ _) _ _ _); refine de_callB (id := "sorted") rfl (by assumption) (by decide +kernel) (by decide) (by decide) rfl rfl ?_)
  | ((with_reducible show DE _ _ (Expr.Call (Expr.Name (Str.ofString "all") _) _ _ _) _ _ _); refine de_callB (id := "all") rfl (by assumption) (by decide +kernel) (by decide) (by decide) rfl rfl ?_)
  | ((with_reducible show DE _ _ (Expr.Call (Expr.Name (Str.ofString "any") _) _ _ _) _ _ _); refine de_callB (id := "any") rfl (by assumption) (by decide +kernel) (by decide) (by decide) rfl rfl ?_)
  | ((with_reducible show DE _ _ (Expr.Call (Expr.Name (Str.ofString "sum") _) _ _ _) _ _ _); refine de_callB (id := "sum") rfl (by assumption) (by decide +kernel) (by decide) (by decide) rfl rfl ?_)
  | ((with_reducible show DE _ _ (Expr.Call (Expr.Name (Str.ofString "int") _) _ _ _) _ _ _); refine de_callTy (T := "int") rfl (by assumption) (by decide +kernel) (by decide) (by decide) rfl rfl ?_)
  | ((with_reducible show DE _ _ (Expr.Call (Expr.Name (Str.ofString "tuple") _) _ _ _) _ _ _); refine de_callTy (T := "tuple") rfl (by assumption) (by decide +kernel) (by decide) (by decide) rfl rfl ?_)
  | ((with_reducible show DE _ _ (Expr.Call (Expr.Name (Str.ofString "list") _) _ _ _) _ _ _); refine de_callTy (T := "list") rfl (by assumption) (by decide +kernel) (by decide) (by decide) rfl rfl ?_)
  | ((with_reducible show DE _ _ (Expr.Call (Expr.Name (Str.ofString "set") _) _ _ _) _ _ _); refine de_callTy (T := "set") rfl (by assumption) (by decide +kernel) (by decide) (by decide) rfl rfl ?_)
  | ((with_reducible show DE _ _ (Expr.Call (Expr.Name (Str.ofString "str") _) _ _ _) _ _ _); refine de_callTy (T := "str") rfl (by assumption) (by decide +kernel) (by decide) (by decide) rfl rfl ?_))
local macro_rules | `(tactic| walk_at "own") => `(tactic| refine de_own (by assumption) (by assumption) (by assumption) (by decide) rfl (by decide) rfl rfl ?_)
local macro_rules | `(tactic| walk_at "bname") => `(tactic| first
  | ((with_reducible show DE _ _ (Expr.Name (Str.ofString "LETTERS") _) _ _ _); refine de_glob (v := .str abc) rfl (by assumption) ⟨_, rfl⟩ (fun _ => .str _) ?_ (by decide))
  | ((with_reducible show DE _ _ (Expr.Name (Str.ofString "LONGEST_WORD") _) _ _ _); refine de_glob (v := .int 8) rfl (by assumption) ⟨_, rfl⟩ (fun _ => .int _) ?_ (by decide))
  | ((with_reducible show DE _ _ (Expr.Name (Str.ofString "MOST_STATES") _) _ _ _); refine de_glob (v := .int 5) rfl (by assumption) ⟨_, rfl⟩ (fun _ => .int _) ?_ (by decide))
  | ((with_reducible show DE _ _ (Expr.Name (Str.ofString "MOST_ARROWS") _) _ _ _); refine de_glob (v := .int 40) rfl (by assumption) ⟨_, rfl⟩ (fun _ => .int _) ?_ (by decide))
  | ((with_reducible show DE _ _ (Expr.Name (Str.ofString "int") _) _ _ _); refine de_bltn (v := .ty "int") rfl (by assumption) (by decide +kernel) rfl ?_ (by decide) (by decide))
  | ((with_reducible show DE _ _ (Expr.Name (Str.ofString "bool") _) _ _ _); refine de_bltn (v := .ty "bool") rfl (by assumption) (by decide +kernel) rfl ?_ (by decide) (by decide))
  | ((with_reducible show DE _ _ (Expr.Name (Str.ofString "str") _) _ _ _); refine de_bltn (v := .ty "str") rfl (by assumption) (by decide +kernel) rfl ?_ (by decide) (by decide))
  | ((with_reducible show DE _ _ (Expr.Name (Str.ofString "tuple") _) _ _ _); refine de_bltn (v := .ty "tuple") rfl (by assumption) (by decide +kernel) rfl ?_ (by decide) (by decide))
  | ((with_reducible show DE _ _ (Expr.Name (Str.ofString "list") _) _ _ _); refine de_bltn (v := .ty "list") rfl (by assumption) (by decide +kernel) rfl ?_ (by decide) (by decide)))
local macro_rules | `(tactic| walk_at "E") => `(tactic| ((with_reducible show DE _ _ _ _ _ _); first
  | ((with_reducible show DE _ _ (Expr.Name _ _) _ _ _); first | walk_at "name" | walk_at "bname")
  | refine de_int ?_ | refine de_str ?_ | refine de_bl ?_ | refine de_non ?_
  | ((with_reducible show DE _ _ (Expr.Subscript _ (Expr.Tuple _ _ _) _) _ _ _); refine de_dget (by assumption) ?_ (fun _ _ => rfl))
  | ((with_reducible show DE _ _ (Expr.Subscript _ (Expr.Slice _ _ _ _) _) _ _ _); first | refine de_revS ?_ | refine de_slice ?_)
  | refine de_ix ?_ (fun _ _ => rfl)
  | refine de_bin ?_ | refine de_cmp ?_ (by first | exact nomark _ | rfl) | refine de_chain ?_ rfl
  | refine de_one ?_ | refine de_neg ?_ | refine de_and ?_ | refine de_or ?_ | refine de_not ?_ | refine de_if ?_
  | refine de_tup ?_ | refine de_lstP (es := []) ?_ | refine de_lst ?_
  | ((with_reducible show DE _ _ (Expr.Call (Expr.Name _ _) _ _ _) _ _ _); first | walk_at "callB" | walk_at "own")
  | ((with_reducible show DE _ _ (Expr.Call (Expr.Attribute _ (Str.ofString "append") _) _ _ _) _ _ _); refine de_append ?_ rfl rfl rfl rfl rfl)
  | ((with_reducible show DE _ _ (Expr.Call (Expr.Attribute _ (Str.ofString "insert") _) _ _ _) _ _ _); refine de_insert ?_ rfl rfl rfl rfl rfl rfl)))
local macro_rules | `(tactic| walk_at "T") => `(tactic| ((with_reducible show DT _ _ _ _ _ _); first
  | ((with_reducible show DT _ _ (Expr.Compare (Expr.Tuple _ _ _) [CmpOp.In] _ _) _ _ _); refine dt_din (by assumption) ?_ rfl)
  | refine dt_cmp ?_ (by first | exact nomark _ | rfl) | refine dt_chain ?_ rfl | refine dt_not ?_ | refine dt_w (dw_and ?_) | refine dt_w (dw_or ?_) | refine dt_val ?_ (fun _ => rfl)))
local macro_rules | `(tactic| walk_at "W") => `(tactic| ((with_reducible show DW _ _ _ _ _ _); first
  | refine dw_and ?_ | refine dw_or ?_ | refine dw_and1 ?_ | refine dw_or1 ?_))
local macro_rules | `(tactic| walk_at "A") => `(tactic| ((with_reducible show DA _ _ _ _ _ _); first | refine da_nil ?_ | refine da_cons ?_ rfl))
local macro_rules | `(tactic| walk_at "O") => `(tactic| ((with_reducible show BD _ _ _ _ _ _ _ _); first
  | ((with_reducible show BD _ _ (binaryOp Operator.Add) (S.d (D.int _)) (S.d (D.int _)) _ _ _); refine bd_add ?_)
  | ((with_reducible show BD _ _ (binaryOp Operator.Add) (S.d (D.str _)) (S.d (D.str _)) _ _ _); refine bd_addS ?_ ?_)
  | ((with_reducible show BD _ _ (binaryOp Operator.Sub) (S.d (D.int _)) (S.d (D.int _)) _ _ _); refine bd_sub ?_)
  | ((with_reducible show BD _ _ (binaryOp Operator.Mod) (S.d (D.int _)) (S.d (D.int _)) _ _ _); refine bd_mod (by walk_at "side") ?_)
  | ((with_reducible show BD _ _ (binaryOp Operator.Mult) (S.d (D.int _)) (S.d (D.int _)) _ _ _); refine bd_mul ?_ ?_)
  | ((with_reducible show BD _ _ (binaryOp Operator.FloorDiv) (S.d (D.int _)) (S.d (D.int _)) _ _ _); refine bd_fdivW ?_ ?_)
  | ((with_reducible show BD _ _ (binaryOp Operator.Pow) (S.d (D.int _)) (S.d (D.int _)) _ _ _); refine bd_pow ?_ ?_)
  | ((with_reducible show BD _ _ (compareOp CmpOp.Lt) (S.d (D.int _)) (S.d (D.int _)) _ _ _); refine bd_lt ?_)
  | ((with_reducible show BD _ _ (compareOp CmpOp.LtE) (S.d (D.int _)) (S.d (D.int _)) _ _ _); refine bd_le ?_)
  | ((with_reducible show BD _ _ (compareOp CmpOp.Gt) (S.d (D.int _)) (S.d (D.int _)) _ _ _); refine bd_gt ?_)
  | ((with_reducible show BD _ _ (compareOp CmpOp.GtE) (S.d (D.int _)) (S.d (D.int _)) _ _ _); refine bd_ge ?_)
  | ((with_reducible show BD _ _ (compareOp CmpOp.Eq) (S.d (D.int _)) (S.d (D.int _)) _ _ _); refine bd_eqI ?_)
  | ((with_reducible show BD _ _ (compareOp CmpOp.NotEq) (S.d (D.int _)) (S.d (D.int _)) _ _ _); refine bd_neI ?_)
  | ((with_reducible show BD _ _ (compareOp CmpOp.Eq) (S.d (D.str _)) (S.d (D.str _)) _ _ _); refine bd_eqS ?_)
  | ((with_reducible show BD _ _ (compareOp CmpOp.NotEq) (S.d (D.str _)) (S.d (D.str _)) _ _ _); refine bd_neS ?_)))
local macro_rules | `(tactic| walk_at "C") => `(tactic| ((with_reducible show CD _ _ _ _ _ _ _); first
  | ((with_reducible show CD _ _ (Value.type "int") _ _ _ _); refine cd_int ?_)
  | ((with_reducible show CD _ _ (Value.builtin "abs") _ _ _ _); refine cd_abs ?_)
  | ((with_reducible show CD _ _ (Value.builtin "max") _ _ _ _); refine cd_max2 rfl ?_)
  | ((with_reducible show CD _ _ (Value.builtin "min") _ _ _ _); refine cd_min2 rfl ?_)
  | ((with_reducible show CD _ _ (Value.builtin "isinstance") _ _ _ _); refine cd_isiK (by first | rfl | assumption) (by first | decide | exact tyD_six (by assumption)) (by decide) (by decide) ?_)
  | ((with_reducible show CD _ _ (Value.builtin "len") _ _ _ _); first | refine cd_lenT ?_ | refine cd_lenS ?_ ?_ | refine cd_lenP rfl ?_ | refine cd_lenL rfl ?_)
  | ((with_reducible show CD _ _ (Value.type "tuple") _ _ _ _); first | refine cd_tupleT ?_ | refine cd_tuple rfl ?_)))
local macro_rules | `(tactic| walk_at "I") => `(tactic| ((with_reducible show ID _ _ _ _ _ _ _); first
  | refine id_lstP rfl rfl ?_ | refine id_tup rfl ?_ | refine id_lst rfl rfl ?_ | refine id_str ?_ ?_ ?_))
local macro_rules | `(tactic| walk_at "S") => `(tactic| ((with_reducible show DS _ _ _ _ _ _); first
  | ((with_reducible show DS _ _ (Stmt.Assign [Expr.Name _ _] _ _) _ _ _); walk_at "set")
  | refine ds_ret ?_ | refine ds_retN ?_ | refine ds_if ?_ | refine ds_expr ?_ rfl | refine ds_pass ?_ | refine ds_break ?_ | refine ds_continue ?_
  | ((with_reducible show DS _ _ (Stmt.Assign [Expr.Attribute _ _ _] _ _) _ _ _); refine ds_fld ?_ rfl)
  | ((with_reducible show DS _ _ (Stmt.Assign [Expr.Subscript _ (Expr.Tuple _ _ _) _] _ _) _ _ _); refine ds_dput (by assumption) ?_ rfl)
  | ((with_reducible show DS _ _ (Stmt.Assign [Expr.Subscript _ _ _] _ _) _ _ _); refine ds_setL ?_ (fun _ => rfl) rfl rfl rfl) | refine ds_asg ?_ rfl rfl rfl))
local macro_rules | `(tactic| walk_at "B") => `(tactic| ((with_reducible show DB _ _ _ _ _ _); first | refine db_cons ?_ | refine db_nil ?_))
local macro_rules | `(tactic| walk_at "G") => `(tactic| first
  | ((with_reducible show DG _ _ _ _ _ _ _); first | walk_at "gname" | refine dg_tup rfl rfl rfl rfl ?_)
  | ((with_reducible show DGs _ _ _ _ _ _ _); first | refine dgs_nil ?_ | refine dgs_cons ?_ rfl))
local macro_rules | `(tactic| walk_at "X") => `(tactic| first
  | ((with_reducible show ∃ n ss j i, S.p _ = S.p n ∧ _ ∧ _ ∧ _ ∧ _); refine ⟨_, _, _, _, rfl, rfl, rfl, rfl, ?_⟩)
  | ((with_reducible show ∃ n ss, S.p _ = S.p n ∧ _ ∧ _); refine ⟨_, _, rfl, rfl, ?_⟩)
  | ((with_reducible show ∃ n, S.d (D.int _) = S.d (D.int n) ∧ _ ∧ _ ∧ _); refine ⟨_, rfl, ?_, ?_, ?_⟩)
  | ((with_reducible show ∃ b, S.d (D.bl _) = S.d (D.bl b) ∧ _); refine ⟨_, rfl, ?_⟩)
  | ((with_reducible show ∃ b, S.d (D.int _) = S.d (D.int b) ∧ _); refine ⟨_, rfl, ?_⟩))
local macro_rules | `(tactic| walk_at "D") => `(tactic| ((with_reducible show DO _ _ _ _ _ _); first | refine do_none ?_ | refine do_some ?_))
local macro_rules | `(tactic| walk_at "step") => `(tactic| first | walk_at "E" | walk_at "O" | walk_at "I" | walk_at "A" | walk_at "C" | walk_at "B" | walk_at "S" | walk_at "T" | walk_at "W" | walk_at "G" | walk_at "D" | walk_at "X")
local macro_rules | `(tactic| walk_at "go") => `(tactic| repeat walk_at "step")
local macro_rules | `(tactic| walk_at "goE") => `(tactic| repeat (first | walk_at "E" | walk_at "O" | walk_at "I" | walk_at "A" | walk_at "C" | walk_at "T" | walk_at "W" | walk_at "G" | walk_at "D" | walk_at "X"))

namespace T
set_option pp.deepTerms false
set_option pp.deepTerms.threshold 3
section
variable {P : Program} {w : World} {K : PySem.W.Frag} {mg : Str → Option Value} {base : Heap}


theorem units64 {k : Nat} {A : Around} (r : Room k A) : A.units + 64 < cLine := by have := r.un; omega
def sdSigns : Sd := fun ss cs Q => ∃ (n : Nat) (c : C) (m : Int), ss = [.p 0, .d (.int m)] ∧ cs = [c] ∧ Spr n c ∧ n + 200 < 2 ^ 60 ∧ 0 ≤ m ∧ m ≤ 8 ∧ ∀ (ws : List Str) c', (∀ z ∈ ws, wordB z = true) → ws.Nodup → ws.length ≤ 8 → Spr (n + 100) c' → Q (.d (.lst (ws.map D.str))) [c']
theorem low_shaped {ws : List Str} (h : ∀ z ∈ ws, lowB z = true) : SeqAt.shaped (pyD (.lst (ws.map D.str))) = true := by
  have key : PyData.canLayAll0 (pyDs (ws.map D.str)) = true ∧ PyData.depthAll (pyDs (ws.map D.str)) = 0 := by
    induction ws with
    | nil => exact ⟨by simp [pyDs, PyData.canLayAll0], by simp [pyDs, PyData.depthAll]⟩
    | cons z ws ih =>
      obtain ⟨h1, h2⟩ := ih fun y m => h y (List.mem_cons_of_mem _ m)
      have hz := h z List.mem_cons_self
      have oz : PySem.PyData.strOk z = true := by
        unfold PySem.PyData.strOk
        rw [Array.all_eq_true_iff_forall_mem]
        intro c hc
        have q : decide (c ∈ abc.cps.toList) = true := List.all_eq_true.mp hz c (by simpa using hc)
        have all : ∀ c ∈ abc.cps.toList, c < 0x110000 := by decide
        exact decide_eq_true (all c (of_decide_eq_true q))
      constructor
      · rw [List.map_cons, pyDs, PyData.canLayAll0, h1, pyD, PyData.canLay0, oz]; rfl
      · rw [List.map_cons, pyDs, PyData.depthAll, h2, pyD, PyData.depth]; rfl
  unfold SeqAt.shaped
  rw [pyD, PyData.canLay0, key.1, PyData.depth, key.2]
  rfl
theorem atI_last {ws : List Str} (h : 0 < ws.length) : ∃ z, z ∈ ws ∧ atI ((ws.map D.str).map S.d) (-1) = some (.d (.str z)) := by
  refine ⟨ws[ws.length - 1]'(by omega), List.getElem_mem _, ?_⟩
  unfold atI ixN
  rw [if_neg (by decide), if_pos (by simp; omega)]
  show ((ws.map D.str).map S.d)[_]? = _
  have e : (-1 + (((ws.map D.str).map S.d).length : Int)).toNat = ws.length - 1 := by simp; omega
  rw [e, List.map_map, List.getElem?_map, List.getElem?_eq_getElem (by omega)]
  rfl
theorem atI_first {ws : List Str} (h : 0 < ws.length) : ∃ z, z ∈ ws ∧ atI ((ws.map D.str).map S.d) 0 = some (.d (.str z)) := by
  refine ⟨ws[0], List.getElem_mem _, ?_⟩
  unfold atI ixN
  rw [if_pos (by decide), if_pos (by simp; omega)]
  show ((ws.map D.str).map S.d)[0]? = _
  rw [List.map_map, List.getElem?_map, List.getElem?_eq_getElem h]
  rfl
theorem low_rev {z : Str} (h : lowB z = true) : lowB (revS z) = true := by
  unfold lowB revS at *
  simpa using h
theorem low_cut {z : Str} (lo hi : Option Int) (h : lowB z = true) : lowB (cutS z lo hi) = true := by
  unfold lowB cutS at *
  rw [List.all_eq_true] at h ⊢
  intro x hx
  exact h x (List.mem_of_mem_drop (List.mem_of_mem_take (by simpa using hx)))
theorem cut_len (z : Str) (lo hi : Option Int) : (cutS z lo hi).length ≤ z.length := by
  show (cutS z lo hi).cps.size ≤ _
  unfold cutS
  rw [List.size_toArray, List.length_take, List.length_drop]
  simp [Str.length]
  omega
theorem cut8_len {z : Str} (h : 1 ≤ z.length) : 1 ≤ (cutS z none (some 8)).length ∧ (cutS z none (some 8)).length ≤ 8 := by
  have e : (cutS z none (some 8)).length = min 8 z.length := by
    show (cutS z none (some 8)).cps.size = _
    unfold cutS
    rw [List.size_toArray, List.length_take, List.length_drop, show HT.sIx z.length 0 none = 0 from rfl, show HT.sIx z.length z.length (some 8) = min 8 z.length from HT.sIx_nat _ _ 8]
    simp [Str.length]
  rw [e]
  omega
def bodyOf (st : Stmt) (j k : Nat) : List Stmt := match (defBody st)[j]? with
  | some (.For _ _ b _ _) => b.drop k
  | _ => []
abbrev strC (ws : List Str) : C := .lst ((ws.map D.str).map S.d)

abbrev sSigns : Stmt := top 36
theorem scSigns : FnScope ["spring", "many", "found", "k", "word"] ["spring", "many"] (defScope sSigns) := ⟨rfl, rfl, rfl, by decide +kernel, rfl, by decide +kernel, by decide +kernel⟩
section
local macro_rules | `(tactic| walk_at "name") => `(tactic| first
  | ((with_reducible show DE _ _ (Expr.Name (Str.ofString "spring") _) _ _ _); refine de_name (i := 0) rfl (by walk_at "vis") rfl ?_ (by decide) (by decide))
  | ((with_reducible show DE _ _ (Expr.Name (Str.ofString "many") _) _ _ _); refine de_name (i := 1) rfl (by walk_at "vis") rfl ?_ (by decide) (by decide))
  | ((with_reducible show DE _ _ (Expr.Name (Str.ofString "found") _) _ _ _); refine de_name (i := 2) rfl (by walk_at "vis") rfl ?_ (by decide) (by decide))
  | ((with_reducible show DE _ _ (Expr.Name (Str.ofString "k") _) _ _ _); refine de_name (i := 3) rfl (by walk_at "vis") rfl ?_ (by decide) (by decide))
  | ((with_reducible show DE _ _ (Expr.Name (Str.ofString "word") _) _ _ _); refine de_name (i := 4) rfl (by walk_at "vis") rfl ?_ (by decide) (by decide)))
local macro_rules | `(tactic| walk_at "set") => `(tactic| first
  | ((with_reducible show DS _ _ (Stmt.Assign [Expr.Name (Str.ofString "spring") _] _ _) _ _ _); refine ds_set (i := 0) ?_ (by assumption) rfl (by walk_at "loc") rfl (by walk_at "loc"))
  | ((with_reducible show DS _ _ (Stmt.Assign [Expr.Name (Str.ofString "many") _] _ _) _ _ _); refine ds_set (i := 1) ?_ (by assumption) rfl (by walk_at "loc") rfl (by walk_at "loc"))
  | ((with_reducible show DS _ _ (Stmt.Assign [Expr.Name (Str.ofString "found") _] _ _) _ _ _); refine ds_set (i := 2) ?_ (by assumption) rfl (by walk_at "loc") rfl (by walk_at "loc"))
  | ((with_reducible show DS _ _ (Stmt.Assign [Expr.Name (Str.ofString "k") _] _ _) _ _ _); refine ds_set (i := 3) ?_ (by assumption) rfl (by walk_at "loc") rfl (by walk_at "loc"))
  | ((with_reducible show DS _ _ (Stmt.Assign [Expr.Name (Str.ofString "word") _] _ _) _ _ _); refine ds_set (i := 4) ?_ (by assumption) rfl (by walk_at "loc") rfl (by walk_at "loc")))
local macro_rules | `(tactic| walk_at "gname") => `(tactic| first
  | ((with_reducible show DG _ _ (Expr.Name (Str.ofString "spring") _) _ _ _ _); refine dg_name (i := 0) (by assumption) rfl (by walk_at "loc") (by walk_at "loc") ?_)
  | ((with_reducible show DG _ _ (Expr.Name (Str.ofString "many") _) _ _ _ _); refine dg_name (i := 1) (by assumption) rfl (by walk_at "loc") (by walk_at "loc") ?_)
  | ((with_reducible show DG _ _ (Expr.Name (Str.ofString "found") _) _ _ _ _); refine dg_name (i := 2) (by assumption) rfl (by walk_at "loc") (by walk_at "loc") ?_)
  | ((with_reducible show DG _ _ (Expr.Name (Str.ofString "k") _) _ _ _ _); refine dg_name (i := 3) (by assumption) rfl (by walk_at "loc") (by walk_at "loc") ?_)
  | ((with_reducible show DG _ _ (Expr.Name (Str.ofString "word") _) _ _ _ _); refine dg_name (i := 4) (by assumption) rfl (by walk_at "loc") (by walk_at "loc") ?_))

local macro_rules | `(tactic| walk_at "E") => `(tactic| ((with_reducible show DE _ _ (Expr.List _ _) _ _ _); refine de_lst ?_))
theorem ok_Signs {f : Addr} {fd : FuncData} (FF : Fun K "_law_signs" "_law_signs" sSigns f fd) (m1 : mg "range" = none) (c1 : Cal P w K mg base 1 "_law_roll" ["spring", "many"] sdRoll) (c2 : Cal P w K mg base 2 "_law_of" ["spring", "some"] sdOf) (c3 : Cal P w K mg base 3 "_law_word" ["spring"] sdWord) : FnG P w K mg base CX0 4 f fd ["spring", "many"] (spOf K 2 sdSigns) := by
  have nd := scSigns.nd
  refine fn_ok FF scSigns ?_
  intro cdv A outer s H E F ss cs Q hr hgu hsd hl hθ
  obtain ⟨n, c, m, rfl, rfl, hs, hn, q0, q8, k⟩ := hsd
  have hu := units64 hr
  refine db_cons ?_
  walk_at "set"
  refine de_lstP (da_nil ?_)
  refine And.intro (Nat.zero_le _) ?_
  walk_at "go"
  refine ds_forR PassesOwn.never rfl rfl m1 (fun _ => rfl) rfl ?_
  walk_at "go"
  any_goals omega
  refine ⟨fun i ρ M => ∃ (ws : List Str) (x y : Option S) (c : C), ρ = [some (.p 0), some (.d (.int m)), some (.p 1), x, y] ∧ M = [c, strC ws] ∧ (∀ z ∈ ws, wordB z = true) ∧ ws.Nodup ∧ ws.length ≤ i ∧ Spr (n + 11 * i) c, ⟨[], _, _, c, rfl, rfl, (fun z h => nomatch h), List.nodup_nil, Nat.le_refl _, hs⟩, ?_, ?_⟩
  · rintro i ρ' M' hi ⟨ws, x, y, c, rfl, rfl, hw, hnd, hlen, hs⟩
    walk_at "go"
    refine spd1' (n := 0) rfl hs.flat rfl rfl ⟨n + 11 * i, c, rfl, rfl, hs, by omega, fun z c' lz h' => ⟨c', rfl, got_d ?_⟩⟩
    have tail : ∀ (N : DEnds) ρ2 (c2 : C) (z2 : Str) (x2 : Option S), (∀ ρ M, (∃ (ws : List Str) (x y : Option S) (c : C), ρ = [some (.p 0), some (.d (.int m)), some (.p 1), x, y] ∧ M = [c, strC ws] ∧ (∀ z ∈ ws, wordB z = true) ∧ ws.Nodup ∧ ws.length ≤ i + 1 ∧ Spr (n + 11 * (i + 1)) c) → N.nx ρ M) →
        ρ2 = [some (.p 0), some (.d (.int m)), some (.p 1), x2, some (.d (.str z2))] → wordB z2 = true → Spr (n + 11 * (i + 1)) c2 → DB F (cxOf CX0 P w K mg base ["spring", "many", "found", "k", "word"] "_law_signs" (defScope sSigns) f cdv A outer s H E).nox (bodyOf sSigns 1 2) ρ2 [c2, strC ws] N := by
      rintro N ρ2 c2 z2 x2 hN rfl lz2 h2
      walk_at "go"
      refine bd_inL (neg := true) (ds := ws.map D.str) ?_ rfl (flatDs_strs ws) ?_
      · show (datas _).map D.lst = _
        rw [datas_map]; rfl
      rw [if_pos rfl, inV_strs]
      refine ⟨_, rfl, ?_⟩
      by_cases hin : z2 ∈ ws
      · rw [show (!decide (z2 ∈ ws)) = false by simp [hin]]
        refine ⟨(fun h => nomatch h), fun _ => db_nil ?_⟩
        refine db_nil ?_
        exact hN _ _ ⟨ws, _, _, c2, rfl, rfl, hw, hnd, by omega, h2⟩
      · rw [show (!decide (z2 ∈ ws)) = true by simp [hin]]
        refine ⟨fun _ => ?_, fun h => nomatch h⟩
        walk_at "go"
        refine ⟨_, rfl, ?_, ?_⟩
        · rw [List.length_map, List.length_map, sizeLine_eq]; omega
        · refine db_nil ?_
          refine db_nil ?_
          refine hN _ _ ⟨ws ++ [z2], _, _, c2, rfl, ?_, ?_, ?_, ?_, h2⟩
          · simp [strC]
          · intro z hz
            rcases List.mem_append.mp hz with q | q
            · exact hw z q
            · rw [List.mem_singleton.mp q]; exact lz2
          · rw [List.nodup_append]
            exact ⟨hnd, by simp, fun x hx y hy e => hin (by rw [List.mem_singleton.mp hy] at e; exact e ▸ hx)⟩
          · rw [List.length_append]
            show ws.length + 1 ≤ _
            omega
    walk_at "go"
    refine ⟨[], rfl, Nat.zero_le _, ?_⟩
    refine bd_neV (d := .lst (ws.map D.str)) (e := .lst []) hu ?_ rfl ?_ rfl (low_shaped fun z m => (low_of (hw z m)).1) (by decide) ?_
    · show (datas _).map D.lst = _
      rw [datas_map]; rfl
    · simp [okD, okDs_all]
    walk_at "go"
    by_cases hne : ws = []
    · subst hne
      refine ⟨fun h => absurd h (by simp [pyD, pyDs, PyData.eqv, PyData.eqvAll]), fun _ => ?_⟩
      refine ⟨(fun h => nomatch h), fun _ => db_nil ?_⟩
      exact tail _ _ c' z _ (fun _ _ h => h) rfl lz (h'.mono (by omega))
    · have hpos : 0 < ws.length := List.length_pos_iff.mpr hne
      have eq1 : (!PyData.eqv (pyD (.lst (ws.map D.str))) (pyD (.lst []))) = true := by
        cases ws with
        | nil => exact absurd rfl hne
        | cons a r => simp [pyD, pyDs, PyData.eqv, PyData.eqvAll]
      rw [eq1]
      refine ⟨fun _ => ?_, fun h => nomatch h⟩
      walk_at "go"
      refine spd1' (n := 0) rfl h'.flat rfl rfl ⟨n + 11 * i + 9, c', 4, rfl, rfl, h', by omega, by decide, by decide, fun r c2 r0 r1 h2 => ⟨c2, rfl, got_d ?_⟩⟩
      walk_at "go"
      refine ⟨fun _ => ?_, fun _ => db_nil ?_⟩
      · obtain ⟨zl, hzl, el⟩ := atI_last hpos
        obtain ⟨zf, hzf, ef⟩ := atI_first hpos
        have lf := low_of (hw _ hzf)
        have ll := low_of (hw _ hzl)
        have lz3 := low_of lz
        walk_at "go"
        have big : ∀ {q : Str}, q.length ≤ 30 → q.length ≤ sizeLine := fun {q} h => by rw [sizeLine_eq]; omega
        refine id_lstP rfl el ?_
        walk_at "go"
        all_goals try (rw [sizeLine_eq]; omega)
        refine id_lstP rfl ef ?_
        refine ⟨zf, rfl, big (by omega), ?_⟩
        walk_at "go"
        refine id_lstP rfl el ?_
        walk_at "go"
        have lc := cut_len zl none (some (-1))
        refine ld_str (big (by omega)) ?_
        walk_at "go"
        all_goals try (rw [sizeLine_eq]; show _ + 1 ≤ _; omega)
        refine id_lstP rfl ef ?_
        walk_at "go"
        all_goals try (rw [sizeLine_eq]; show 1 + _ ≤ _; omega)
        refine ⟨_, rfl, show 4 ≤ sizeLine by decide, ?_⟩
        walk_at "go"
        refine spd1' (n := 0) rfl h2.flat rfl rfl ⟨n + 11 * i + 9 + 1, c2, _, rfl, rfl, h2, by omega, show 0 < 4 by decide, show 4 < 2 ^ 29 by decide, fun x c3 hx h3 => ⟨c3, rfl, got_d ?_⟩⟩
        have ex : ∃ q : Str, x = .str q ∧ lowB q = true ∧ 1 ≤ q.length ∧ q.length ≤ 30 := by
          simp only [List.mem_cons, List.not_mem_nil, or_false] at hx
          rcases hx with rfl | rfl | rfl | rfl
          · exact ⟨_, rfl, low_app ll.1 lz3.1, by rw [len_app]; omega, by rw [len_app]; omega⟩
          · exact ⟨_, rfl, low_rev lf.1, by rw [revS_length]; omega, by rw [revS_length]; omega⟩
          · exact ⟨_, rfl, low_app (low_cut _ _ ll.1) (by decide), by rw [len_app]; show 1 ≤ _ + 1; omega, by rw [len_app]; show _ + 1 ≤ _; omega⟩
          · exact ⟨_, rfl, low_app (by decide) lf.1, by rw [len_app]; omega, by rw [len_app]; show 1 + _ ≤ _; omega⟩
        obtain ⟨q, rfl, lq, lq1, lq2⟩ := ex
        walk_at "go"
        refine ld_str (big lq2) ?_
        refine db_nil ?_
        exact tail _ _ c3 _ _ (fun _ _ h => h) rfl (word_of (cut8_len lq1).1 (cut8_len lq1).2 (low_cut _ _ lq)) (h3.mono (by omega))
      · exact tail _ _ c2 z _ (fun _ _ h => h) rfl lz (h2.mono (by omega))
  · rintro ρ' M' ⟨ws, x, y, c, rfl, rfl, hw, hnd, hlen, hs⟩
    refine db_freeze (i := 2) (n := 1) (ds := ws.map D.str) rfl rfl (datas_map _) (by rw [hθ]; exact Nat.le_refl _) ?_
    walk_at "go"
    exact rets_d (by simp [hs.flat]) (k ws c hw hnd (by omega) (hs.mono (by omega)))

end
end
end T
end

section
set_option Elab.async false
set_option linter.all false
set_option maxRecDepth 100000
set_option maxHeartbeats 2000000
open PySem PySem.Spec PyProof.Rows L2 DL
namespace T
mutual
def sm : D → Bool
  | .int i => decide (0 ≤ i) && decide (i ≤ 9)
  | .str z => wordB z
  | .lst ds => sms ds
  | .tup ds => sms ds
  | _ => false
def sms : List D → Bool
  | [] => true
  | d :: ds => sm d && sms ds
end
mutual
def cnt : D → Nat
  | .lst ds => 1 + cnts ds
  | .tup ds => 1 + cnts ds
  | _ => 1
def cnts : List D → Nat
  | [] => 0
  | d :: ds => cnt d + cnts ds
end
theorem int_small {i : Int} (h0 : 0 ≤ i) (h9 : i ≤ 9) : (PyData.int i).showable = true ∧ (PyData.int i).leavesShort 13 = true ∧ (PyData.int i).weight ≤ 4 := by
  have : i = 0 ∨ i = 1 ∨ i = 2 ∨ i = 3 ∨ i = 4 ∨ i = 5 ∨ i = 6 ∨ i = 7 ∨ i = 8 ∨ i = 9 := by omega
  rcases this with rfl | rfl | rfl | rfl | rfl | rfl | rfl | rfl | rfl | rfl
  all_goals exact ⟨by decide +kernel, by decide +kernel, by decide +kernel⟩
theorem word_small {z : Str} (h : wordB z = true) : (PyData.str z).leavesShort 13 = true ∧ (PyData.str z).weight ≤ 8 := by
  obtain ⟨h1, h2, h3⟩ := low_of h
  refine ⟨?_, h3⟩
  simp only [PyData.leavesShort, List.all_eq_true, decide_eq_true_eq]
  intro c hc
  have q := List.all_eq_true.mp h1 c hc
  have all : ∀ c ∈ abc.cps.toList, c < 16 ^ 8 := by decide
  exact all c (of_decide_eq_true q)
theorem sm_good : ∀ n, (∀ d : D, sizeOf d < n → sm d = true → okD d = true ∧ (pyD d).showable = true ∧ (pyD d).leavesShort 13 = true ∧ (pyD d).weight + 1 ≤ 10 * cnt d) ∧ ∀ ds : List D, sizeOf ds < n → sms ds = true → okDs ds = true ∧ PyData.showableAll (pyDs ds) = true ∧ PyData.leavesShortAll 13 (pyDs ds) = true ∧ PyData.weightAll (pyDs ds) ≤ 10 * cnts ds := by
  intro n
  induction n with
  | zero => exact ⟨fun _ h => absurd h (Nat.not_lt_zero _), fun _ h => absurd h (Nat.not_lt_zero _)⟩
  | succ n ih =>
    refine ⟨fun d hd h => ?_, fun ds hd h => ?_⟩
    · cases d with
      | int i =>
        have h : 0 ≤ i ∧ i ≤ 9 := by simpa [sm] using h
        obtain ⟨a, b, c⟩ := int_small h.1 h.2
        refine ⟨rfl, by rw [pyD]; exact a, by rw [pyD]; exact b, by rw [pyD, show cnt (.int i) = 1 by simp [cnt]]; omega⟩
      | str z =>
        have h : wordB z = true := by simpa [sm] using h
        obtain ⟨a, b⟩ := word_small h
        refine ⟨rfl, rfl, by rw [pyD]; exact a, by rw [pyD, show cnt (.str z) = 1 by simp [cnt]]; omega⟩
      | lst ds =>
        obtain ⟨a, b, c, e⟩ := ih.2 ds (by simp at hd; omega) (by simpa [sm] using h)
        refine ⟨by rw [okD]; exact a, by rw [pyD, PyData.showable]; exact b, by rw [pyD, PyData.leavesShort]; exact c, by rw [pyD, cnt, PyData.weight]; omega⟩
      | tup ds =>
        obtain ⟨a, b, c, e⟩ := ih.2 ds (by simp at hd; omega) (by simpa [sm] using h)
        refine ⟨by rw [okD]; exact a, by rw [pyD, PyData.showable]; exact b, by rw [pyD, PyData.leavesShort]; exact c, by rw [pyD, cnt, PyData.weight]; omega⟩
      | _ => simp [sm] at h
    · cases ds with
      | nil => exact ⟨rfl, rfl, rfl, by simp [pyDs, PyData.weightAll]⟩
      | cons d ds =>
        have h : sm d = true ∧ sms ds = true := by simpa [sms] using h
        obtain ⟨a, b, c, e⟩ := ih.1 d (by simp at hd; omega) h.1
        obtain ⟨a2, b2, c2, e2⟩ := ih.2 ds (by simp at hd; omega) h.2
        refine ⟨by rw [okDs, a, a2]; rfl, by rw [pyDs, PyData.showableAll, b, b2]; rfl, by rw [pyDs, PyData.leavesShortAll, c, c2]; rfl, by rw [pyDs, PyData.weightAll, cnts]; omega⟩
theorem sms_map {α : Type} (f : α → D) : ∀ {xs : List α}, (∀ x ∈ xs, sm (f x) = true) → sms (xs.map f) = true
  | [], _ => rfl
  | x :: xs, h => by
    rw [List.map_cons, sms, h x List.mem_cons_self, sms_map f fun y m => h y (List.mem_cons_of_mem _ m)]
    rfl
theorem cnts_map {α : Type} (f : α → D) (k : Nat) : ∀ {xs : List α}, (∀ x ∈ xs, cnt (f x) ≤ k) → cnts (xs.map f) ≤ k * xs.length
  | [], _ => Nat.le_refl _
  | x :: xs, h => by
    have h1 := h x List.mem_cons_self
    have h2 := cnts_map f k (xs := xs) fun y m => h y (List.mem_cons_of_mem _ m)
    rw [List.map_cons, cnts, List.length_cons, Nat.mul_succ]
    omega
theorem depth_map {α : Type} (f : α → D) (k : Nat) : ∀ {xs : List α}, (∀ x ∈ xs, (pyD (f x)).depth ≤ k) → PyData.depthAll (pyDs (xs.map f)) ≤ k
  | [], _ => by simp [pyDs, PyData.depthAll]
  | x :: xs, h => by
    have h1 := h x List.mem_cons_self
    have h2 := depth_map f k (xs := xs) fun y m => h y (List.mem_cons_of_mem _ m)
    rw [List.map_cons, pyDs, PyData.depthAll]
    omega
theorem reprOk_of {u : Nat} {d : D} (hu : u + 64 < cLine) (h : sm d = true) (hc : cnt d ≤ 1000) (hdep : (pyD d).depth ≤ 10) : ReprOk u d := by
  obtain ⟨a, b, c, e⟩ := (sm_good _).1 d (Nat.lt_succ_self _) h
  refine ⟨a, b, by omega, ?_⟩
  have z := PyData.shown_le 13 (by decide) (pyD d) c
  rw [sizeLine_eq]
  omega
end T
end

section
set_option Elab.async false
set_option linter.all false
set_option maxRecDepth 100000
set_option maxHeartbeats 2000000
open PySem PySem.Spec PyProof.Rows L2 DL

local macro_rules | `(tactic| walk_at "vis") => `(tactic| first | exact Or.inl rfl | exact Or.inr (Or.inl rfl) | exact Or.inr (Or.inr rfl))
local macro_rules | `(tactic| walk_at "loc") => `(tactic| first | exact Or.inl rfl | exact Or.inr rfl)
local macro_rules | `(tactic| walk_at "side") => `(tactic| first | assumption | omega | decide)
local macro_rules | `(tactic| walk_at "callB") => `(tactic| first
  | ((with_reducible show DE _ _ (Expr.Call (Expr.Name (Str.ofString "len") _) _ _ _) _ _ _); refine de_callB (id := "len") rfl (by assumption) (by decide +kernel) (by decide) (by decide) rfl rfl ?_)
  | ((with_reducible show DE _ _ (Expr.Call (Expr.Name (Str.ofString "max") _) _ _ _) _ _ _); refine de_callB (id := "max") rfl (by assumption) (by decide +kernel) (by decide) (by decide) rfl rfl ?_)
  | ((with_reducible show DE _ _ (Expr.Call (Expr.Name (Str.ofString "min") _) _ _ _) _ _ _); refine de_callB (id := "min") rfl (by assumption) (by decide +kernel) (by decide) (by decide) rfl rfl ?_)
  | ((with_reducible show DE _ _ (Expr.Call (Expr.Name (Str.ofString "abs") _) _ _ _) _ _ _); refine de_callB (id := "abs") rfl (by assumption) (by decide +kernel) (by decide) (by decide) rfl rfl ?_)
  | ((with_reducible show DE _ _ (Expr.Call (Expr.Name (Str.ofString "repr") _) _ _ _) _ _ _); refine de_callB (id := "repr") rfl (by assumption) (by decide +kernel) (by decide) (by decide) rfl rfl ?_)
  | ((with_reducible show DE _ _ (Expr.Call (Expr.Name (Str.ofString "isinstance") _) _ _ _) _ _ _); refine de_callB (id := "isinstance") rfl (by assumption) (by decide +kernel) (by decide) (by decide) rfl rfl ?_)
  | ((with_reducible show DE _ _ (Expr.Call (Expr.Name (Str.ofString "sorted") _) _ _ _) _ _ _); refine de_callB (id := "sorted") rfl (by assumption) (by decide +kernel) (by decide) (by decide) rfl rfl ?_)
  | ((with_reducible show DE _ _ (Expr.Call (Expr.Name (Str.ofString "all") _) _ _ _) _ _ _); refine de_callB (id := "all") rfl (by assumption) (by decide +kernel) (by decide) (by decide) rfl rfl ?_)
  | ((with_reducible show DE _ _ (Expr.Call (Expr.Name (Str.ofString "any") _) _ _ _) _ _ _); refine de_callB (id := "any") rfl (by assumption) (by decide +kernel) (by decide) (by decide) rfl rfl ?_)
  | ((with_reducible show DE _ _ (Expr.Call (Expr.Name (Str.ofString "sum") _) _ _ _) _ _ _); refine de_callB (id := "sum") rfl (by assumption) (by decide +kernel) (by decide) (by decide) rfl rfl ?_)
  | ((with_reducible show DE _ _ (Expr.Call (Expr.Name (Str.ofString "int") _) _ _ _) _ _ _); refine de_callTy (T := "int") rfl (by assumption) (by decide +kernel) (by decide) (by decide) rfl rfl ?_)
  | ((with_reducible show DE _ _ (Expr.Call (Expr.Name (Str.ofString "tuple") _) _ _ _) _ _ _); refine de_callTy (T := "tuple") rfl (by assumption) (by decide +kernel) (by decide) (by decide) rfl rfl ?_)
  | ((with_reducible show DE _ _ (Expr.Call (Expr.Name (Str.ofString "list") _) _ _ _) _ _ _); refine de_callTy (T := "list") rfl (by assumption) (by decide +kernel) (by decide) (by decide) rfl rfl ?_)
  | ((with_reducible show DE _ _ (Expr.Call (Expr.Name (Str.ofString "set") _) _ _ _) _ _ _); refine de_callTy (T := "set") rfl (by assumption) (by decide +kernel) (by decide) (by decide) rfl rfl ?_)
  | ((with_reducible show DE _ _ (Expr.Call (Expr.Name (Str.ofString "str") _) _ _ _) _ _ _); refine de_callTy (T := "str") rfl (by assumption) (by decide +kernel) (by decide) (by decide) rfl rfl ?_))
local macro_rules | `(tactic| walk_at "own") => `(tactic| refine de_own (by assumption) (by assumption) (by assumption) (by decide) rfl (by decide) rfl rfl ?_)
local macro_rules | `(tactic| walk_at "bname") => `(tactic| first
  | ((with_reducible show DE _ _ (Expr.Name (Str.ofString "LETTERS") _) _ _ _); refine de_glob (v := .str abc) rfl (by assumption) ⟨_, rfl⟩ (fun _ => .str _) ?_ (by decide))
  | ((with_reducible show DE _ _ (Expr.Name (Str.ofString "LONGEST_WORD") _) _ _ _); refine de_glob (v := .int 8) rfl (by assumption) ⟨_, rfl⟩ (fun _ => .int _) ?_ (by decide))
  | ((with_reducible show DE _ _ (Expr.Name (Str.ofString "MOST_STATES") _) _ _ _); refine de_glob (v := .int 5) rfl (by assumption) ⟨_, rfl⟩ (fun _ => .int _) ?_ (by decide))
  | ((with_reducible show DE _ _ (Expr.Name (Str.ofString "MOST_ARROWS") _) _ _ _); refine de_glob (v := .int 40) rfl (by assumption) ⟨_, rfl⟩ (fun _ => .int _) ?_ (by decide))
  | ((with_reducible show DE _ _ (Expr.Name (Str.ofString "int") _) _ _ _); refine de_bltn (v := .ty "int") rfl (by assumption) (by decide +kernel) rfl ?_ (by decide) (by decide))
  | ((with_reducible show DE _ _ (Expr.Name (Str.ofString "bool") _) _ _ _); refine de_bltn (v := .ty "bool") rfl (by assumption) (by decide +kernel) rfl ?_ (by decide) (by decide))
  | ((with_reducible show DE _ _ (Expr.Name (Str.ofString "str") _) _ _ _); refine de_bltn (v := .ty "str") rfl (by assumption) (by decide +kernel) rfl ?_ (by decide) (by decide))
  | ((with_reducible show DE _ _ (Expr.Name (Str.ofString "tuple") _) _ _ _); refine de_bltn (v := .ty "tuple") rfl (by assumption) (by decide +kernel) rfl ?_ (by decide) (by decide))
  | ((with_reducible show DE _ _ (Expr.Name (Str.ofString "list") _) _ _ _); refine de_bltn (v := .ty "list") rfl (by assumption) (by decide +kernel) rfl ?_ (by decide) (by decide)))
local macro_rules | `(tactic| walk_at "E") => `(tactic| ((with_reducible show DE _ _ _ _ _ _); first
  | ((with_reducible show DE _ _ (Expr.Name _ _) _ _ _); first | walk_at "name" | walk_at "bname")
  | refine de_int ?_ | refine de_str ?_ | refine de_bl ?_ | refine de_non ?_
  | ((with_reducible show DE _ _ (Expr.Subscript _ (Expr.Tuple _ _ _) _) _ _ _); refine de_dget (by assumption) ?_ (fun _ _ => rfl))
  | ((with_reducible show DE _ _ (Expr.Subscript _ (Expr.Slice _ _ _ _) _) _ _ _); first | refine de_revS ?_ | refine de_slice ?_)
  | refine de_ix ?_ (fun _ _ => rfl)
  | refine de_bin ?_ | refine de_cmp ?_ (by first | exact nomark _ | rfl) | refine de_chain ?_ rfl
  | refine de_one ?_ | refine de_neg ?_ | refine de_and ?_ | refine de_or ?_ | refine de_not ?_ | refine de_if ?_
  | refine de_tup ?_ | refine de_lstP (es := []) ?_ | refine de_lst ?_
  | ((with_reducible show DE _ _ (Expr.Call (Expr.Name _ _) _ _ _) _ _ _); first | walk_at "callB" | walk_at "own")
  | ((with_reducible show DE _ _ (Expr.Call (Expr.Attribute _ (Str.ofString "append") _) _ _ _) _ _ _); refine de_append ?_ rfl rfl rfl rfl rfl)
  | ((with_reducible show DE _ _ (Expr.Call (Expr.Attribute _ (Str.ofString "insert") _) _ _ _) _ _ _); refine de_insert ?_ rfl rfl rfl rfl rfl rfl)))
local macro_rules | `(tactic| walk_at "T") => `(tactic| ((with_reducible show DT _ _ _ _ _ _); first
  | ((with_reducible show DT _ _ (Expr.Compare (Expr.Tuple _ _ _) [CmpOp.In] _ _) _ _ _); refine dt_din (by assumption) ?_ rfl)
  | refine dt_cmp ?_ (by first | exact nomark _ | rfl) | refine dt_chain ?_ rfl | refine dt_not ?_ | refine dt_w (dw_and ?_) | refine dt_w (dw_or ?_) | refine dt_val ?_ (fun _ => rfl)))
local macro_rules | `(tactic| walk_at "W") => `(tactic| ((with_reducible show DW _ _ _ _ _ _); first
  | refine dw_and ?_ | refine dw_or ?_ | refine dw_and1 ?_ | refine dw_or1 ?_))
local macro_rules | `(tactic| walk_at "A") => `(tactic| ((with_reducible show DA _ _ _ _ _ _); first | refine da_nil ?_ | refine da_cons ?_ rfl))
local macro_rules | `(tactic| walk_at "O") => `(tactic| ((with_reducible show BD _ _ _ _ _ _ _ _); first
  | ((with_reducible show BD _ _ (binaryOp Operator.Add) (S.d (D.int _)) (S.d (D.int _)) _ _ _); refine bd_add ?_)
  | ((with_reducible show BD _ _ (binaryOp Operator.Add) (S.d (D.str _)) (S.d (D.str _)) _ _ _); refine bd_addS ?_ ?_)
  | ((with_reducible show BD _ _ (binaryOp Operator.Sub) (S.d (D.int _)) (S.d (D.int _)) _ _ _); refine bd_sub ?_)
  | ((with_reducible show BD _ _ (binaryOp Operator.Mod) (S.d (D.int _)) (S.d (D.int _)) _ _ _); refine bd_mod (by walk_at "side") ?_)
  | ((with_reducible show BD _ _ (binaryOp Operator.Mult) (S.d (D.int _)) (S.d (D.int _)) _ _ _); refine bd_mul ?_ ?_)
  | ((with_reducible show BD _ _ (binaryOp Operator.FloorDiv) (S.d (D.int _)) (S.d (D.int _)) _ _ _); refine bd_fdivW ?_ ?_)
  | ((with_reducible show BD _ _ (binaryOp Operator.Pow) (S.d (D.int _)) (S.d (D.int _)) _ _ _); refine bd_pow ?_ ?_)
  | ((with_reducible show BD _ _ (compareOp CmpOp.Lt) (S.d (D.int _)) (S.d (D.int _)) _ _ _); refine bd_lt ?_)
  | ((with_reducible show BD _ _ (compareOp CmpOp.LtE) (S.d (D.int _)) (S.d (D.int _)) _ _ _); refine bd_le ?_)
  | ((with_reducible show BD _ _ (compareOp CmpOp.Gt) (S.d (D.int _)) (S.d (D.int _)) _ _ _); refine bd_gt ?_)
  | ((with_reducible show BD _ _ (compareOp CmpOp.GtE) (S.d (D.int _)) (S.d (D.int _)) _ _ _); refine bd_ge ?_)
  | ((with_reducible show BD _ _ (compareOp CmpOp.Eq) (S.d (D.int _)) (S.d (D.int _)) _ _ _); refine bd_eqI ?_)
  | ((with_reducible show BD _ _ (compareOp CmpOp.NotEq) (S.d (D.int _)) (S.d (D.int _)) _ _ _); refine bd_neI ?_)
  | ((with_reducible show BD _ _ (compareOp CmpOp.Eq) (S.d (D.str _)) (S.d (D.str _)) _ _ _); refine bd_eqS ?_)
  | ((with_reducible show BD _ _ (compareOp CmpOp.NotEq) (S.d (D.str _)) (S.d (D.str _)) _ _ _); refine bd_neS ?_)))
local macro_rules | `(tactic| walk_at "C") => `(tactic| ((with_reducible show CD _ _ _ _ _ _ _); first
  | ((with_reducible show CD _ _ (Value.type "int") _ _ _ _); refine cd_int ?_)
  | ((with_reducible show CD _ _ (Value.builtin "abs") _ _ _ _); refine cd_abs ?_)
  | ((with_reducible show CD _ _ (Value.builtin "max") _ _ _ _); refine cd_max2 rfl ?_)
  | ((with_reducible show CD _ _ (Value.builtin "min") _ _ _ _); refine cd_min2 rfl ?_)
  | ((with_reducible show CD _ _ (Value.builtin "isinstance") _ _ _ _); refine cd_isiK (by first | rfl | assumption) (by first | decide | exact tyD_six (by assumption)) (by decide) (by decide) ?_)
  | ((with_reducible show CD _ _ (Value.builtin "len") _ _ _ _); first | refine cd_lenT ?_ | refine cd_lenS ?_ ?_ | refine cd_lenP rfl ?_ | refine cd_lenL rfl ?_)
  | ((with_reducible show CD _ _ (Value.type "tuple") _ _ _ _); first | refine cd_tupleT ?_ | refine cd_tuple rfl ?_)))
local macro_rules | `(tactic| walk_at "I") => `(tactic| ((with_reducible show ID _ _ _ _ _ _ _); first
  | refine id_lstP rfl rfl ?_ | refine id_tup rfl ?_ | refine id_lst rfl rfl ?_ | refine id_str ?_ ?_ ?_))
local macro_rules | `(tactic| walk_at "S") => `(tactic| ((with_reducible show DS _ _ _ _ _ _); first
  | ((with_reducible show DS _ _ (Stmt.Assign [Expr.Name _ _] _ _) _ _ _); walk_at "set")
  | refine ds_ret ?_ | refine ds_retN ?_ | refine ds_if ?_ | refine ds_expr ?_ rfl | refine ds_pass ?_ | refine ds_break ?_ | refine ds_continue ?_
  | ((with_reducible show DS _ _ (Stmt.Assign [Expr.Attribute _ _ _] _ _) _ _ _); refine ds_fld ?_ rfl)
  | ((with_reducible show DS _ _ (Stmt.Assign [Expr.Subscript _ (Expr.Tuple _ _ _) _] _ _) _ _ _); refine ds_dput (by assumption) ?_ rfl)
  | ((with_reducible show DS _ _ (Stmt.Assign [Expr.Subscript _ _ _] _ _) _ _ _); refine ds_setL ?_ (fun _ => rfl) rfl rfl rfl) | refine ds_asg ?_ rfl rfl rfl))
local macro_rules | `(tactic| walk_at "B") => `(tactic| ((with_reducible show DB _ _ _ _ _ _); first | refine db_cons ?_ | refine db_nil ?_))
local macro_rules | `(tactic| walk_at "G") => `(tactic| first
  | ((with_reducible show DG _ _ _ _ _ _ _); first | walk_at "gname" | refine dg_tup rfl rfl rfl rfl ?_)
  | ((with_reducible show DGs _ _ _ _ _ _ _); first | refine dgs_nil ?_ | refine dgs_cons ?_ rfl))
local macro_rules | `(tactic| walk_at "X") => `(tactic| first
  | ((with_reducible show ∃ n ss j i, S.p _ = S.p n ∧ _ ∧ _ ∧ _ ∧ _); refine ⟨_, _, _, _, rfl, rfl, rfl, rfl, ?_⟩)
  | ((with_reducible show ∃ n ss, S.p _ = S.p n ∧ _ ∧ _); refine ⟨_, _, rfl, rfl, ?_⟩)
  | ((with_reducible show ∃ n, S.d (D.int _) = S.d (D.int n) ∧ _ ∧ _ ∧ _); refine ⟨_, rfl, ?_, ?_, ?_⟩)
  | ((with_reducible show ∃ b, S.d (D.bl _) = S.d (D.bl b) ∧ _); refine ⟨_, rfl, ?_⟩)
  | ((with_reducible show ∃ b, S.d (D.int _) = S.d (D.int b) ∧ _); refine ⟨_, rfl, ?_⟩))
local macro_rules | `(tactic| walk_at "D") => `(tactic| ((with_reducible show DO _ _ _ _ _ _); first | refine do_none ?_ | refine do_some ?_))
local macro_rules | `(tactic| walk_at "step") => `(tactic| first | walk_at "E" | walk_at "O" | walk_at "I" | walk_at "A" | walk_at "C" | walk_at "B" | walk_at "S" | walk_at "T" | walk_at "W" | walk_at "G" | walk_at "D" | walk_at "X")
local macro_rules | `(tactic| walk_at "go") => `(tactic| repeat walk_at "step")
local macro_rules | `(tactic| walk_at "goE") => `(tactic| repeat (first | walk_at "E" | walk_at "O" | walk_at "I" | walk_at "A" | walk_at "C" | walk_at "T" | walk_at "W" | walk_at "G" | walk_at "D" | walk_at "X"))

namespace T
set_option pp.deepTerms false
set_option pp.deepTerms.threshold 3
section
variable {P : Program} {w : World} {K : PySem.W.Frag} {mg : Str → Option Value} {base : Heap}


/-- a method of a class, without further arguments -/
structure MeC (P : Program) (w : World) (K : PySem.W.Frag) (mg : Str → Option Value) (base : Heap) (C : Addr) (k : Nat) (m : Str) (sd : Sd) : Prop where
  ex : ∃ fa fd, Meth K C m fa ∧ FnG P w K mg base CX0 k fa fd ["self"] (spOf K 1 sd) ∧ Binds K fd ["self"] []
theorem de_mC {X : Cx} {F : Fc} {ρ : Rho} {M : Mem} {Q : S → Mem → Prop} {o : Expr} {pos apos : Pos} {k j : Nat} {C : Addr} {sd : Sd} {m : Str} {pl : Sem Bool} (c : Cls X.K C) (E : MeC X.prog X.w X.K X.mg X.base C k m sd) (hr : Room j X.A) (hgu : X.A.guards = some []) (hkj : k ≤ j)
    (ht : eval (.Call (.Attribute o m apos) [] [] pos) X.env = (do
      let z ← eval o X.env
      standAt apos.atName
      let (y, first) ← holding [z] (getMethod z m pl)
      callWith pos y first (backTo pos (starEach [] X.env)) (backToKw pos (keywordEach [] X.env))))
    (h : DE F X o ρ M fun s M1 => ∃ fs, s = .d (.ins C fs) ∧ fs.lookup m = none ∧ SpD F X (spOf X.K 1 sd) [] [s] ρ M1 Q) : DE F X (.Call (.Attribute o m apos) [] [] pos) ρ M Q := by
  obtain ⟨fa, fd, hm, G, hb⟩ := E.ex
  exact de_meth0 (ps := ["self"]) c hm G hb hr hgu hkj ht h
structure MachOk (n : Int) (as : List Arr) (es : List Int) : Prop where
  n1 : 1 ≤ n
  n5 : n ≤ 5
  ar : ArrsOk n as
  en : EndsOk n es
theorem arr_sm {n : Int} (h5 : n ≤ 5) {as : List Arr} (ok : ArrsOk n as) : ∀ a ∈ sortA as, sm (arD a) = true := fun a m => by
  have m := (sortA_perm as).mem_iff.mp m
  obtain ⟨q1, q2⟩ := ok.st a m
  obtain ⟨q3, q4⟩ := ok.tg a m
  have q5 := ok.wd a m
  simp only [sm, sms, q5, Bool.and_true, Bool.true_and, Bool.and_eq_true, decide_eq_true_eq]
  omega
theorem cnt_arr (a : Arr) : cnt (arD a) ≤ 4 := by simp [cnt, cnts]
theorem cnt_int (i : Int) : cnt (.int i) ≤ 1 := by simp [cnt]
theorem cnt_str (z : Str) : cnt (.str z) ≤ 1 := by simp [cnt]
theorem dep_arr (a : Arr) : (pyD (arD a)).depth ≤ 2 := by simp [pyD, pyDs, PyData.depth, PyData.depthAll]
def sortI (es : List Int) : List Int := es.mergeSort fun a b => PySem.W.dataLe false pyD (.int a) (.int b)
theorem sortD_int (es : List Int) : sortD (es.map D.int) = (sortI es).map D.int := (List.map_mergeSort (f := D.int) fun a _ b _ => rfl).symm
theorem sortI_perm (es : List Int) : (sortI es).Perm es := List.mergeSort_perm _ _
theorem repr1 {u : Nat} (hu : u + 64 < cLine) {n : Int} {as : List Arr} {es : List Int} (ok : MachOk n as es) : ReprOk u (.lst [.int n, .tup (sortD (as.map arD)), .tup (sortD (es.map D.int))]) := by
  rw [sortD_arr, sortD_int]
  have l1 : (sortA as).length ≤ 40 := by rw [(sortA_perm as).length_eq]; exact ok.ar.ln
  have l2 : (sortI es).length ≤ 100 := by rw [(sortI_perm es).length_eq]; exact ok.en.ln
  have n1 := ok.n1
  have n5 := ok.n5
  have s1 := sms_map arD (xs := sortA as) (arr_sm n5 ok.ar)
  have s2 : sms ((sortI es).map D.int) = true := sms_map D.int fun e m => by
    obtain ⟨q1, q2⟩ := ok.en.st e ((sortI_perm es).mem_iff.mp m)
    simp only [sm, Bool.and_eq_true, decide_eq_true_eq]
    omega
  have c1 := cnts_map arD 4 (xs := sortA as) fun a _ => cnt_arr a
  have c2 := cnts_map D.int 1 (xs := sortI es) fun a _ => cnt_int a
  have d1 := depth_map arD 2 (xs := sortA as) fun a _ => dep_arr a
  have d2 := depth_map D.int 0 (xs := sortI es) fun a _ => by simp [pyD, PyData.depth]
  refine reprOk_of hu ?_ ?_ ?_
  · simp only [sm, sms, s1, s2, Bool.and_true, Bool.and_eq_true, decide_eq_true_eq]
    omega
  · simp only [cnt, cnts]
    omega
  · simp only [pyD, pyDs, PyData.depth, PyData.depthAll]
    omega
theorem repr2 {u : Nat} (hu : u + 64 < cLine) {n : Int} {as : List Arr} (ok : ArrsOk n as) : ReprOk u (.lst ((sgn as).map D.str)) := by
  have l0 : (sgn as).length ≤ 40 := by
    show (sortS (dedW _)).length ≤ 40
    rw [List.length_mergeSort]
    exact Nat.le_trans (dedW_len _) (by rw [List.length_map]; exact ok.ln)
  have mem : ∀ z ∈ sgn as, wordB z = true := fun z m => by
    have m2 : z ∈ dedW (as.map fun a => a.2.1) := (List.mergeSort_perm _ _).mem_iff.mp m
    obtain ⟨a, ha, rfl⟩ := List.mem_map.mp (mem_dedW.1 m2)
    exact ok.wd a ha
  have s1 : sms ((sgn as).map D.str) = true := sms_map D.str fun z m => by rw [sm]; exact mem z m
  have c1 := cnts_map D.str 1 (xs := sgn as) fun z _ => cnt_str z
  have d1 := depth_map D.str 0 (xs := sgn as) fun z _ => by simp [pyD, PyData.depth]
  refine reprOk_of hu (by rw [sm]; exact s1) ?_ ?_
  · rw [cnt]; omega
  · rw [pyD, PyData.depth]; omega


abbrev psM : List Str := ["self", "size", "arrows", "ends"]
/-- the class Machine as it is made -/
structure MkC (P : Program) (w : World) (K : PySem.W.Frag) (mg : Str → Option Value) (base : Heap) (C : Addr) : Prop where
  ex : ∃ fa fd, Mk K C fa ∧ FnG P w K mg base CX0 5 fa fd psM (spOf K psM.length (sdMI C)) ∧ mg "Machine" = some (.ref C) ∧ Binds K fd psM [] ∧ (∃ ds dvs, Binds K fd psM ds ∧ Vals dvs ds ∧ ∀ g, RepSs K g dvs [.d (.tup [])]) ∧
    (∃ ds dvs, Binds K fd psM ds ∧ Vals dvs ds ∧ ∀ g, RepSs K g dvs [.d (.tup []), .d (.tup [])]) ∧ KwTo K fd psM ["ends", "arrows", "size"] 0 (fun _ ts => [ts.getD 2 (.d .non), ts.getD 1 (.d .non), ts.getD 0 (.d .non)]) ∧
    KwTo K fd psM ["ends", "arrows"] 1 (fun ss ts => [ss.getD 0 (.d .non), ts.getD 1 (.d .non), ts.getD 0 (.d .non)])

end
end T
end

section
set_option Elab.async false
set_option linter.all false
set_option maxRecDepth 100000
set_option maxHeartbeats 2000000
open PySem PySem.Spec PyProof.Rows L2 DL

local macro_rules | `(tactic| walk_at "vis") => `(tactic| first | exact Or.inl rfl | exact Or.inr (Or.inl rfl) | exact Or.inr (Or.inr rfl))
local macro_rules | `(tactic| walk_at "loc") => `(tactic| first | exact Or.inl rfl | exact Or.inr rfl)
local macro_rules | `(tactic| walk_at "side") => `(tactic| first | assumption | omega | decide)
local macro_rules | `(tactic| walk_at "callB") => `(tactic| first
  | ((with_reducible show DE _ _ (Expr.Call (Expr.Name (Str.ofString "len") _) _ _ _) _ _ _); refine de_callB (id := "len") rfl (by assumption) (by decide +kernel) (by decide) (by decide) rfl rfl ?_)
  | ((with_reducible show DE _ _ (Expr.Call (Expr.Name (Str.ofString "max") _) _ _ _) _ _ _); refine de_callB (id := "max") rfl (by assumption) (by decide +kernel) (by decide) (by decide) rfl rfl ?_)
  | ((with_reducible show DE _ _ (Expr.Call (Expr.Name (Str.ofString "min") _) _ _ _) _ _ _); refine de_callB (id := "min") rfl (by assumption) (by decide +kernel) (by decide) (by decide) rfl rfl ?_)
  | ((with_reducible show DE _ _ (Expr.Call (Expr.Name (Str.ofString "abs") _) _ _ _) _ _ _); refine de_callB (id := "abs") rfl (by assumption) (by decide +kernel) (by decide) (by decide) rfl rfl ?_)
  | ((with_reducible show DE _ _ (Expr.Call (Expr.Name (Str.ofString "repr") _) _ _ _) _ _ _); refine de_callB (id := "repr") rfl (by assumption) (by decide +kernel) (by decide) (by decide) rfl rfl ?_)
  | ((with_reducible show DE _ _ (Expr.Call (Expr.Name (Str.ofString "isinstance") _) _ _ _) _ _ _); refine de_callB (id := "isinstance") rfl (by assumption) (by decide +kernel) (by decide) (by decide) rfl rfl ?_)
  | ((with_reducible show DE _ _ (Expr.Call (Expr.Name (Str.ofString "sorted") _) _ _ _) _ _ _); refine de_callB (id := "sorted") rfl (by assumption) (by decide +kernel) (by decide) (by decide) rfl rfl ?_)
  | ((with_reducible show DE _ _ (Expr.Call (Expr.Name (Str.ofString "all") _) _ _ _) _ _ _); refine de_callB (id := "all") rfl (by assumption) (by decide +kernel) (by decide) (by decide) rfl rfl ?_)
  | ((with_reducible show DE _ _ (Expr.Call (Expr.Name (Str.ofString "any") _) _ _ _) _ _ _); refine de_callB (id := "any") rfl (by assumption) (by decide +kernel) (by decide) (by decide) rfl rfl ?_)
  | ((with_reducible show DE _ _ (Expr.Call (Expr.Name (Str.ofString "sum") _) _ _ _) _ _ _); refine de_callB (id := "sum") rfl (by assumption) (by decide +kernel) (by decide) (by decide) rfl rfl ?_)
  | ((with_reducible show DE _ _ (Expr.Call (Expr.Name (Str.ofString "int") _) _ _ _) _ _ _); refine de_callTy (T := "int") rfl (by assumption) (by decide +kernel) (by decide) (by decide) rfl rfl ?_)
  | ((with_reducible show DE _ _ (Expr.Call (Expr.Name (Str.ofString "tuple") _) _ _ _) _ _ _); refine de_callTy (T := "tuple") rfl (by assumption) (by decide +kernel) (by decide) (by decide) rfl rfl ?_)
  | ((with_reducible show DE _ _ (Expr.Call (Expr.Name (Str.ofString "list") _) _ _ _) _ _ _); refine de_callTy (T := "list") rfl (by assumption) (by decide +kernel) (by decide) (by decide) rfl rfl ?_)
  | ((with_reducible show DE _ _ (Expr.Call (Expr.Name (Str.ofString "set") _) _ _ _) _ _ _); refine de_callTy (T := "set") rfl (by assumption) (by decide +kernel) (by decide) (by decide) rfl rfl ?_)
  | ((with_reducible show DE _ _ (Expr.Call (Expr.Name (Str.ofString "str") _) _ _ _) _ _ _); refine de_callTy (T := "str") rfl (by assumption) (by decide +kernel) (by decide) (by decide) rfl rfl ?_))
local macro_rules | `(tactic| walk_at "own") => `(tactic| refine de_own (by assumption) (by assumption) (by assumption) (by decide) rfl (by decide) rfl rfl ?_)
local macro_rules | `(tactic| walk_at "bname") => `(tactic| first
  | ((with_reducible show DE _ _ (Expr.Name (Str.ofString "LETTERS") _) _ _ _); refine de_glob (v := .str abc) rfl (by assumption) ⟨_, rfl⟩ (fun _ => .str _) ?_ (by decide))
  | ((with_reducible show DE _ _ (Expr.Name (Str.ofString "LONGEST_WORD") _) _ _ _); refine de_glob (v := .int 8) rfl (by assumption) ⟨_, rfl⟩ (fun _ => .int _) ?_ (by decide))
  | ((with_reducible show DE _ _ (Expr.Name (Str.ofString "MOST_STATES") _) _ _ _); refine de_glob (v := .int 5) rfl (by assumption) ⟨_, rfl⟩ (fun _ => .int _) ?_ (by decide))
  | ((with_reducible show DE _ _ (Expr.Name (Str.ofString "MOST_ARROWS") _) _ _ _); refine de_glob (v := .int 40) rfl (by assumption) ⟨_, rfl⟩ (fun _ => .int _) ?_ (by decide))
  | ((with_reducible show DE _ _ (Expr.Name (Str.ofString "int") _) _ _ _); refine de_bltn (v := .ty "int") rfl (by assumption) (by decide +kernel) rfl ?_ (by decide) (by decide))
  | ((with_reducible show DE _ _ (Expr.Name (Str.ofString "bool") _) _ _ _); refine de_bltn (v := .ty "bool") rfl (by assumption) (by decide +kernel) rfl ?_ (by decide) (by decide))
  | ((with_reducible show DE _ _ (Expr.Name (Str.ofString "str") _) _ _ _); refine de_bltn (v := .ty "str") rfl (by assumption) (by decide +kernel) rfl ?_ (by decide) (by decide))
  | ((with_reducible show DE _ _ (Expr.Name (Str.ofString "tuple") _) _ _ _); refine de_bltn (v := .ty "tuple") rfl (by assumption) (by decide +kernel) rfl ?_ (by decide) (by decide))
  | ((with_reducible show DE _ _ (Expr.Name (Str.ofString "list") _) _ _ _); refine de_bltn (v := .ty "list") rfl (by assumption) (by decide +kernel) rfl ?_ (by decide) (by decide)))
local macro_rules | `(tactic| walk_at "E") => `(tactic| ((with_reducible show DE _ _ _ _ _ _); first
  | ((with_reducible show DE _ _ (Expr.Name _ _) _ _ _); first | walk_at "name" | walk_at "bname")
  | refine de_int ?_ | refine de_str ?_ | refine de_bl ?_ | refine de_non ?_
  | ((with_reducible show DE _ _ (Expr.Subscript _ (Expr.Tuple _ _ _) _) _ _ _); refine de_dget (by assumption) ?_ (fun _ _ => rfl))
  | ((with_reducible show DE _ _ (Expr.Subscript _ (Expr.Slice _ _ _ _) _) _ _ _); first | refine de_revS ?_ | refine de_slice ?_)
  | refine de_ix ?_ (fun _ _ => rfl)
  | refine de_bin ?_ | refine de_cmp ?_ (by first | exact nomark _ | rfl) | refine de_chain ?_ rfl
  | refine de_one ?_ | refine de_neg ?_ | refine de_and ?_ | refine de_or ?_ | refine de_not ?_ | refine de_if ?_
  | refine de_tup ?_ | refine de_lstP (es := []) ?_ | refine de_lst ?_
  | ((with_reducible show DE _ _ (Expr.Call (Expr.Name _ _) _ _ _) _ _ _); first | walk_at "callB" | walk_at "own")
  | ((with_reducible show DE _ _ (Expr.Call (Expr.Attribute _ (Str.ofString "append") _) _ _ _) _ _ _); refine de_append ?_ rfl rfl rfl rfl rfl)
  | ((with_reducible show DE _ _ (Expr.Call (Expr.Attribute _ (Str.ofString "insert") _) _ _ _) _ _ _); refine de_insert ?_ rfl rfl rfl rfl rfl rfl)))
local macro_rules | `(tactic| walk_at "T") => `(tactic| ((with_reducible show DT _ _ _ _ _ _); first
  | ((with_reducible show DT _ _ (Expr.Compare (Expr.Tuple _ _ _) [CmpOp.In] _ _) _ _ _); refine dt_din (by assumption) ?_ rfl)
  | refine dt_cmp ?_ (by first | exact nomark _ | rfl) | refine dt_chain ?_ rfl | refine dt_not ?_ | refine dt_w (dw_and ?_) | refine dt_w (dw_or ?_) | refine dt_val ?_ (fun _ => rfl)))
local macro_rules | `(tactic| walk_at "W") => `(tactic| ((with_reducible show DW _ _ _ _ _ _); first
  | refine dw_and ?_ | refine dw_or ?_ | refine dw_and1 ?_ | refine dw_or1 ?_))
local macro_rules | `(tactic| walk_at "A") => `(tactic| ((with_reducible show DA _ _ _ _ _ _); first | refine da_nil ?_ | refine da_cons ?_ rfl))
local macro_rules | `(tactic| walk_at "O") => `(tactic| ((with_reducible show BD _ _ _ _ _ _ _ _); first
  | ((with_reducible show BD _ _ (binaryOp Operator.Add) (S.d (D.int _)) (S.d (D.int _)) _ _ _); refine bd_add ?_)
  | ((with_reducible show BD _ _ (binaryOp Operator.Add) (S.d (D.str _)) (S.d (D.str _)) _ _ _); refine bd_addS ?_ ?_)
  | ((with_reducible show BD _ _ (binaryOp Operator.Sub) (S.d (D.int _)) (S.d (D.int _)) _ _ _); refine bd_sub ?_)
  | ((with_reducible show BD _ _ (binaryOp Operator.Mod) (S.d (D.int _)) (S.d (D.int _)) _ _ _); refine bd_mod (by walk_at "side") ?_)
  | ((with_reducible show BD _ _ (binaryOp Operator.Mult) (S.d (D.int _)) (S.d (D.int _)) _ _ _); refine bd_mul ?_ ?_)
  | ((with_reducible show BD _ _ (binaryOp Operator.FloorDiv) (S.d (D.int _)) (S.d (D.int _)) _ _ _); refine bd_fdivW ?_ ?_)
  | ((with_reducible show BD _ _ (binaryOp Operator.Pow) (S.d (D.int _)) (S.d (D.int _)) _ _ _); refine bd_pow ?_ ?_)
  | ((with_reducible show BD _ _ (compareOp CmpOp.Lt) (S.d (D.int _)) (S.d (D.int _)) _ _ _); refine bd_lt ?_)
  | ((with_reducible show BD _ _ (compareOp CmpOp.LtE) (S.d (D.int _)) (S.d (D.int _)) _ _ _); refine bd_le ?_)
  | ((with_reducible show BD _ _ (compareOp CmpOp.Gt) (S.d (D.int _)) (S.d (D.int _)) _ _ _); refine bd_gt ?_)
  | ((with_reducible show BD _ _ (compareOp CmpOp.GtE) (S.d (D.int _)) (S.d (D.int _)) _ _ _); refine bd_ge ?_)
  | ((with_reducible show BD _ _ (compareOp CmpOp.Eq) (S.d (D.int _)) (S.d (D.int _)) _ _ _); refine bd_eqI ?_)
  | ((with_reducible show BD _ _ (compareOp CmpOp.NotEq) (S.d (D.int _)) (S.d (D.int _)) _ _ _); refine bd_neI ?_)
  | ((with_reducible show BD _ _ (compareOp CmpOp.Eq) (S.d (D.str _)) (S.d (D.str _)) _ _ _); refine bd_eqS ?_)
  | ((with_reducible show BD _ _ (compareOp CmpOp.NotEq) (S.d (D.str _)) (S.d (D.str _)) _ _ _); refine bd_neS ?_)))
local macro_rules | `(tactic| walk_at "C") => `(tactic| ((with_reducible show CD _ _ _ _ _ _ _); first
  | ((with_reducible show CD _ _ (Value.type "int") _ _ _ _); refine cd_int ?_)
  | ((with_reducible show CD _ _ (Value.builtin "abs") _ _ _ _); refine cd_abs ?_)
  | ((with_reducible show CD _ _ (Value.builtin "max") _ _ _ _); refine cd_max2 rfl ?_)
  | ((with_reducible show CD _ _ (Value.builtin "min") _ _ _ _); refine cd_min2 rfl ?_)
  | ((with_reducible show CD _ _ (Value.builtin "isinstance") _ _ _ _); refine cd_isiK (by first | rfl | assumption) (by first | decide | exact tyD_six (by assumption)) (by decide) (by decide) ?_)
  | ((with_reducible show CD _ _ (Value.builtin "len") _ _ _ _); first | refine cd_lenT ?_ | refine cd_lenS ?_ ?_ | refine cd_lenP rfl ?_ | refine cd_lenL rfl ?_)
  | ((with_reducible show CD _ _ (Value.type "tuple") _ _ _ _); first | refine cd_tupleT ?_ | refine cd_tuple rfl ?_)))
local macro_rules | `(tactic| walk_at "I") => `(tactic| ((with_reducible show ID _ _ _ _ _ _ _); first
  | refine id_lstP rfl rfl ?_ | refine id_tup rfl ?_ | refine id_lst rfl rfl ?_ | refine id_str ?_ ?_ ?_))
local macro_rules | `(tactic| walk_at "S") => `(tactic| ((with_reducible show DS _ _ _ _ _ _); first
  | ((with_reducible show DS _ _ (Stmt.Assign [Expr.Name _ _] _ _) _ _ _); walk_at "set")
  | refine ds_ret ?_ | refine ds_retN ?_ | refine ds_if ?_ | refine ds_expr ?_ rfl | refine ds_pass ?_ | refine ds_break ?_ | refine ds_continue ?_
  | ((with_reducible show DS _ _ (Stmt.Assign [Expr.Attribute _ _ _] _ _) _ _ _); refine ds_fld ?_ rfl)
  | ((with_reducible show DS _ _ (Stmt.Assign [Expr.Subscript _ (Expr.Tuple _ _ _) _] _ _) _ _ _); refine ds_dput (by assumption) ?_ rfl)
  | ((with_reducible show DS _ _ (Stmt.Assign [Expr.Subscript _ _ _] _ _) _ _ _); refine ds_setL ?_ (fun _ => rfl) rfl rfl rfl) | refine ds_asg ?_ rfl rfl rfl))
local macro_rules | `(tactic| walk_at "B") => `(tactic| ((with_reducible show DB _ _ _ _ _ _); first | refine db_cons ?_ | refine db_nil ?_))
local macro_rules | `(tactic| walk_at "G") => `(tactic| first
  | ((with_reducible show DG _ _ _ _ _ _ _); first | walk_at "gname" | refine dg_tup rfl rfl rfl rfl ?_)
  | ((with_reducible show DGs _ _ _ _ _ _ _); first | refine dgs_nil ?_ | refine dgs_cons ?_ rfl))
local macro_rules | `(tactic| walk_at "X") => `(tactic| first
  | ((with_reducible show ∃ n ss j i, S.p _ = S.p n ∧ _ ∧ _ ∧ _ ∧ _); refine ⟨_, _, _, _, rfl, rfl, rfl, rfl, ?_⟩)
  | ((with_reducible show ∃ n ss, S.p _ = S.p n ∧ _ ∧ _); refine ⟨_, _, rfl, rfl, ?_⟩)
  | ((with_reducible show ∃ n, S.d (D.int _) = S.d (D.int n) ∧ _ ∧ _ ∧ _); refine ⟨_, rfl, ?_, ?_, ?_⟩)
  | ((with_reducible show ∃ b, S.d (D.bl _) = S.d (D.bl b) ∧ _); refine ⟨_, rfl, ?_⟩)
  | ((with_reducible show ∃ b, S.d (D.int _) = S.d (D.int b) ∧ _); refine ⟨_, rfl, ?_⟩))
local macro_rules | `(tactic| walk_at "D") => `(tactic| ((with_reducible show DO _ _ _ _ _ _); first | refine do_none ?_ | refine do_some ?_))
local macro_rules | `(tactic| walk_at "step") => `(tactic| first | walk_at "E" | walk_at "O" | walk_at "I" | walk_at "A" | walk_at "C" | walk_at "B" | walk_at "S" | walk_at "T" | walk_at "W" | walk_at "G" | walk_at "D" | walk_at "X")
local macro_rules | `(tactic| walk_at "go") => `(tactic| repeat walk_at "step")
local macro_rules | `(tactic| walk_at "goE") => `(tactic| repeat (first | walk_at "E" | walk_at "O" | walk_at "I" | walk_at "A" | walk_at "C" | walk_at "T" | walk_at "W" | walk_at "G" | walk_at "D" | walk_at "X"))

namespace T
set_option pp.deepTerms false
set_option pp.deepTerms.threshold 3
section
variable {P : Program} {w : World} {K : PySem.W.Frag} {mg : Str → Option Value} {base : Heap}


abbrev rowC (as : List Arr) : C := .lst ((as.map arD).map S.d)
abbrev numC (es : List Int) : C := .lst ((es.map D.int).map S.d)
structure PlanOk (m : Int) (ws : List Str) (i j : Nat) (as : List Arr) : Prop where
  at_ : ∀ a ∈ as, 0 ≤ a.1 ∧ (a.1 < i ∨ (a.1 = i ∧ a.2.1 ∈ ws.take j))
  wd : ∀ a ∈ as, a.2.1 ∈ ws
  tg : ∀ a ∈ as, 0 ≤ a.2.2 ∧ a.2.2 < m
  nd : (as.map keyA).Nodup
  ln : as.length ≤ 40
theorem ins_perm {α : Type} (as : List α) (k : Nat) (a : α) : (as.take k ++ [a] ++ as.drop k).Perm (a :: as) := by
  have h : (as.take k ++ [a] ++ as.drop k).Perm ([a] ++ (as.take k ++ as.drop k)) := by
    rw [← List.append_assoc]
    exact (List.perm_append_comm).append_right _
  rwa [List.take_append_drop] at h
theorem PlanOk.ins {m : Int} {ws : List Str} {i j k : Nat} {as : List Arr} {w : Str} {t : Int} (p : PlanOk m ws i j as) (hw : ws[j]? = some w) (hn : ws.Nodup) (h0 : 0 ≤ t) (h1 : t < m) (hl : as.length < 40) : PlanOk m ws i (j + 1) (as.take k ++ [((i : Int), w, t)] ++ as.drop k) := by
  have pm := ins_perm as k ((i : Int), w, t)
  have hj : j < ws.length := (List.getElem?_eq_some_iff.mp hw).1
  have ew : ws[j] = w := (List.getElem?_eq_some_iff.mp hw).2
  have tk : ws.take (j + 1) = ws.take j ++ [w] := by rw [List.take_succ, hw]; rfl
  have out : w ∉ ws.take j := fun m => by
    obtain ⟨q, hq, eq⟩ := List.mem_take_iff_getElem.mp m
    have := (List.pairwise_iff_getElem.mp hn) q j (by omega) hj (by omega)
    exact this (by rw [eq, ew])
  refine ⟨fun a ha => ?_, fun a ha => ?_, fun a ha => ?_, ?_, ?_⟩
  · rcases List.mem_cons.mp (pm.mem_iff.mp ha) with rfl | ha
    · exact ⟨by omega, .inr ⟨rfl, by rw [tk]; simp⟩⟩
    · obtain ⟨q1, q2⟩ := p.at_ a ha
      refine ⟨q1, q2.imp id fun q => ⟨q.1, by rw [tk]; exact List.mem_append_left _ q.2⟩⟩
  · rcases List.mem_cons.mp (pm.mem_iff.mp ha) with rfl | ha
    · exact List.mem_of_getElem? hw
    · exact p.wd a ha
  · rcases List.mem_cons.mp (pm.mem_iff.mp ha) with rfl | ha
    · exact ⟨h0, h1⟩
    · exact p.tg a ha
  · refine ((pm.map keyA).nodup_iff).2 ?_
    rw [List.map_cons, List.nodup_cons]
    refine ⟨fun m => ?_, p.nd⟩
    obtain ⟨a, ha, e⟩ := List.mem_map.mp m
    have e1 : a.1 = i := Sum.inl.inj (List.cons.inj e).1
    have e2 : a.2.1 = w := Sum.inr.inj (List.cons.inj (List.cons.inj e).2).1
    rcases (p.at_ a ha).2 with q | ⟨_, q⟩
    · omega
    · exact out (e2 ▸ q)
  · rw [pm.length_eq, List.length_cons]; omega
theorem PlanOk.skip {m : Int} {ws : List Str} {i j : Nat} {as : List Arr} (p : PlanOk m ws i j as) : PlanOk m ws i (j + 1) as :=
  ⟨fun a ha => ⟨(p.at_ a ha).1, (p.at_ a ha).2.imp id fun q => ⟨q.1, (List.take_subset_take_left ws (Nat.le_succ j)) q.2⟩⟩, p.wd, p.tg, p.nd, p.ln⟩
theorem PlanOk.next {m : Int} {ws : List Str} {i j : Nat} {as : List Arr} (p : PlanOk m ws i j as) : PlanOk m ws (i + 1) 0 as :=
  ⟨fun a ha => ⟨(p.at_ a ha).1, .inl (by rcases (p.at_ a ha).2 with q | q <;> omega)⟩, p.wd, p.tg, p.nd, p.ln⟩

end
end T
end

section
set_option Elab.async false
set_option linter.all false
set_option maxRecDepth 100000
set_option maxHeartbeats 2000000
open PySem PySem.Spec PyProof.Rows L2 DL

local macro_rules | `(tactic| walk_at "vis") => `(tactic| first | exact Or.inl rfl | exact Or.inr (Or.inl rfl) | exact Or.inr (Or.inr rfl))
local macro_rules | `(tactic| walk_at "loc") => `(tactic| first | exact Or.inl rfl | exact Or.inr rfl)
local macro_rules | `(tactic| walk_at "side") => `(tactic| first | assumption | omega | decide)
local macro_rules | `(tactic| walk_at "callB") => `(tactic| first
  | ((with_reducible show DE _ _ (Expr.Call (Expr.Name (Str.ofString "len") _) _ _ _) _ _ _); refine de_callB (id := "len") rfl (by assumption) (by decide +kernel) (by decide) (by decide) rfl rfl ?_)
  | ((with_reducible show DE _ _ (Expr.Call (Expr.Name (Str.ofString "max") _) _ _ _) _ _ _); refine de_callB (id := "max") rfl (by assumption) (by decide +kernel) (by decide) (by decide) rfl rfl ?_)
  | ((with_reducible show DE _ _ (Expr.Call (Expr.Name (Str.ofString "min") _) _ _ _) _ _ _); refine de_callB (id := "min") rfl (by assumption) (by decide +kernel) (by decide) (by decide) rfl rfl ?_)
  | ((with_reducible show DE _ _ (Expr.Call (Expr.Name (Str.ofString "abs") _) _ _ _) _ _ _); refine de_callB (id := "abs") rfl (by assumption) (by decide +kernel) (by decide) (by decide) rfl rfl ?_)
  | ((with_reducible show DE _ _ (Expr.Call (Expr.Name (Str.ofString "repr") _) _ _ _) _ _ _); refine de_callB (id := "repr") rfl (by assumption) (by decide +kernel) (by decide) (by decide) rfl rfl ?_)
  | ((with_reducible show DE _ _ (Expr.Call (Expr.Name (Str.ofString "isinstance") _) _ _ _) _ _ _); refine de_callB (id := "isinstance") rfl (by assumption) (by decide +kernel) (by decide) (by decide) rfl rfl ?_)
  | ((with_reducible show DE _ _ (Expr.Call (Expr.Name (Str.ofString "sorted") _) _ _ _) _ _ _); refine de_callB (id := "sorted") rfl (by assumption) (by decide +kernel) (by decide) (by decide) rfl rfl ?_)
  | ((with_reducible show DE _ _ (Expr.Call (Expr.Name (Str.ofString "all") _) _ _ _) _ _ _); refine de_callB (id := "all") rfl (by assumption) (by decide +kernel) (by decide) (by decide) rfl rfl ?_)
  | ((with_reducible show DE _ _ (Expr.Call (Expr.Name (Str.ofString "any") _) _ _ _) _ _ _); refine de_callB (id := "any") rfl (by assumption) (by decide +kernel) (by decide) (by decide) rfl rfl ?_)
  | ((with_reducible show DE _ _ (Expr.Call (Expr.Name (Str.ofString "sum") _) _ _ _) _ _ _); refine de_callB (id := "sum") rfl (by assumption) (by decide +kernel) (by decide) (by decide) rfl rfl ?_)
  | ((with_reducible show DE _ _ (Expr.Call (Expr.Name (Str.ofString "int") _) _ _ _) _ _ _); refine de_callTy (T := "int") rfl (by assumption) (by decide +kernel) (by decide) (by decide) rfl rfl ?_)
  | ((with_reducible show DE _ _ (Expr.Call (Expr.Name (Str.ofString "tuple") _) _ _ _) _ _ _); refine de_callTy (T := "tuple") rfl (by assumption) (by decide +kernel) (by decide) (by decide) rfl rfl ?_)
  | ((with_reducible show DE _ _ (Expr.Call (Expr.Name (Str.ofString "list") _) _ _ _) _ _ _); refine de_callTy (T := "list") rfl (by assumption) (by decide +kernel) (by decide) (by decide) rfl rfl ?_)
  | ((with_reducible show DE _ _ (Expr.Call (Expr.Name (Str.ofString "set") _) _ _ _) _ _ _); refine de_callTy (T := "set") rfl (by assumption) (by decide +kernel) (by decide) (by decide) rfl rfl ?_)
  | ((with_reducible show DE _ _ (Expr.Call (Expr.Name (Str.ofString "str") _) _ _ _) _ _ _); refine de_callTy (T := "str") rfl (by assumption) (by decide +kernel) (by decide) (by decide) rfl rfl ?_))
local macro_rules | `(tactic| walk_at "own") => `(tactic| refine de_own (by assumption) (by assumption) (by assumption) (by decide) rfl (by decide) rfl rfl ?_)
local macro_rules | `(tactic| walk_at "bname") => `(tactic| first
  | ((with_reducible show DE _ _ (Expr.Name (Str.ofString "LETTERS") _) _ _ _); refine de_glob (v := .str abc) rfl (by assumption) ⟨_, rfl⟩ (fun _ => .str _) ?_ (by decide))
  | ((with_reducible show DE _ _ (Expr.Name (Str.ofString "LONGEST_WORD") _) _ _ _); refine de_glob (v := .int 8) rfl (by assumption) ⟨_, rfl⟩ (fun _ => .int _) ?_ (by decide))
  | ((with_reducible show DE _ _ (Expr.Name (Str.ofString "MOST_STATES") _) _ _ _); refine de_glob (v := .int 5) rfl (by assumption) ⟨_, rfl⟩ (fun _ => .int _) ?_ (by decide))
  | ((with_reducible show DE _ _ (Expr.Name (Str.ofString "MOST_ARROWS") _) _ _ _); refine de_glob (v := .int 40) rfl (by assumption) ⟨_, rfl⟩ (fun _ => .int _) ?_ (by decide))
  | ((with_reducible show DE _ _ (Expr.Name (Str.ofString "int") _) _ _ _); refine de_bltn (v := .ty "int") rfl (by assumption) (by decide +kernel) rfl ?_ (by decide) (by decide))
  | ((with_reducible show DE _ _ (Expr.Name (Str.ofString "bool") _) _ _ _); refine de_bltn (v := .ty "bool") rfl (by assumption) (by decide +kernel) rfl ?_ (by decide) (by decide))
  | ((with_reducible show DE _ _ (Expr.Name (Str.ofString "str") _) _ _ _); refine de_bltn (v := .ty "str") rfl (by assumption) (by decide +kernel) rfl ?_ (by decide) (by decide))
  | ((with_reducible show DE _ _ (Expr.Name (Str.ofString "tuple") _) _ _ _); refine de_bltn (v := .ty "tuple") rfl (by assumption) (by decide +kernel) rfl ?_ (by decide) (by decide))
  | ((with_reducible show DE _ _ (Expr.Name (Str.ofString "list") _) _ _ _); refine de_bltn (v := .ty "list") rfl (by assumption) (by decide +kernel) rfl ?_ (by decide) (by decide)))
local macro_rules | `(tactic| walk_at "E") => `(tactic| ((with_reducible show DE _ _ _ _ _ _); first
  | ((with_reducible show DE _ _ (Expr.Name _ _) _ _ _); first | walk_at "name" | walk_at "bname")
  | refine de_int ?_ | refine de_str ?_ | refine de_bl ?_ | refine de_non ?_
  | ((with_reducible show DE _ _ (Expr.Subscript _ (Expr.Tuple _ _ _) _) _ _ _); refine de_dget (by assumption) ?_ (fun _ _ => rfl))
  | ((with_reducible show DE _ _ (Expr.Subscript _ (Expr.Slice _ _ _ _) _) _ _ _); first | refine de_revS ?_ | refine de_slice ?_)
  | refine de_ix ?_ (fun _ _ => rfl)
  | refine de_bin ?_ | refine de_cmp ?_ (by first | exact nomark _ | rfl) | refine de_chain ?_ rfl
  | refine de_one ?_ | refine de_neg ?_ | refine de_and ?_ | refine de_or ?_ | refine de_not ?_ | refine de_if ?_
  | refine de_tup ?_ | refine de_lstP (es := []) ?_ | refine de_lst ?_
  | ((with_reducible show DE _ _ (Expr.Call (Expr.Name _ _) _ _ _) _ _ _); first | walk_at "callB" | walk_at "own")
  | ((with_reducible show DE _ _ (Expr.Call (Expr.Attribute _ (Str.ofString "append") _) _ _ _) _ _ _); refine de_append ?_ rfl rfl rfl rfl rfl)
  | ((with_reducible show DE _ _ (Expr.Call (Expr.Attribute _ (Str.ofString "insert") _) _ _ _) _ _ _); refine de_insert ?_ rfl rfl rfl rfl rfl rfl)))
local macro_rules | `(tactic| walk_at "T") => `(tactic| ((with_reducible show DT _ _ _ _ _ _); first
  | ((with_reducible show DT _ _ (Expr.Compare (Expr.Tuple _ _ _) [CmpOp.In] _ _) _ _ _); refine dt_din (by assumption) ?_ rfl)
  | refine dt_cmp ?_ (by first | exact nomark _ | rfl) | refine dt_chain ?_ rfl | refine dt_not ?_ | refine dt_w (dw_and ?_) | refine dt_w (dw_or ?_) | refine dt_val ?_ (fun _ => rfl)))
local macro_rules | `(tactic| walk_at "W") => `(tactic| ((with_reducible show DW _ _ _ _ _ _); first
  | refine dw_and ?_ | refine dw_or ?_ | refine dw_and1 ?_ | refine dw_or1 ?_))
local macro_rules | `(tactic| walk_at "A") => `(tactic| ((with_reducible show DA _ _ _ _ _ _); first | refine da_nil ?_ | refine da_cons ?_ rfl))
local macro_rules | `(tactic| walk_at "O") => `(tactic| ((with_reducible show BD _ _ _ _ _ _ _ _); first
  | ((with_reducible show BD _ _ (binaryOp Operator.Add) (S.d (D.int _)) (S.d (D.int _)) _ _ _); refine bd_add ?_)
  | ((with_reducible show BD _ _ (binaryOp Operator.Add) (S.d (D.str _)) (S.d (D.str _)) _ _ _); refine bd_addS ?_ ?_)
  | ((with_reducible show BD _ _ (binaryOp Operator.Sub) (S.d (D.int _)) (S.d (D.int _)) _ _ _); refine bd_sub ?_)
  | ((with_reducible show BD _ _ (binaryOp Operator.Mod) (S.d (D.int _)) (S.d (D.int _)) _ _ _); refine bd_mod (by walk_at "side") ?_)
  | ((with_reducible show BD _ _ (binaryOp Operator.Mult) (S.d (D.int _)) (S.d (D.int _)) _ _ _); refine bd_mul ?_ ?_)
  | ((with_reducible show BD _ _ (binaryOp Operator.FloorDiv) (S.d (D.int _)) (S.d (D.int _)) _ _ _); refine bd_fdivW ?_ ?_)
  | ((with_reducible show BD _ _ (binaryOp Operator.Pow) (S.d (D.int _)) (S.d (D.int _)) _ _ _); refine bd_pow ?_ ?_)
  | ((with_reducible show BD _ _ (compareOp CmpOp.Lt) (S.d (D.int _)) (S.d (D.int _)) _ _ _); refine bd_lt ?_)
  | ((with_reducible show BD _ _ (compareOp CmpOp.LtE) (S.d (D.int _)) (S.d (D.int _)) _ _ _); refine bd_le ?_)
  | ((with_reducible show BD _ _ (compareOp CmpOp.Gt) (S.d (D.int _)) (S.d (D.int _)) _ _ _); refine bd_gt ?_)
  | ((with_reducible show BD _ _ (compareOp CmpOp.GtE) (S.d (D.int _)) (S.d (D.int _)) _ _ _); refine bd_ge ?_)
  | ((with_reducible show BD _ _ (compareOp CmpOp.Eq) (S.d (D.int _)) (S.d (D.int _)) _ _ _); refine bd_eqI ?_)
  | ((with_reducible show BD _ _ (compareOp CmpOp.NotEq) (S.d (D.int _)) (S.d (D.int _)) _ _ _); refine bd_neI ?_)
  | ((with_reducible show BD _ _ (compareOp CmpOp.Eq) (S.d (D.str _)) (S.d (D.str _)) _ _ _); refine bd_eqS ?_)
  | ((with_reducible show BD _ _ (compareOp CmpOp.NotEq) (S.d (D.str _)) (S.d (D.str _)) _ _ _); refine bd_neS ?_)))
local macro_rules | `(tactic| walk_at "C") => `(tactic| ((with_reducible show CD _ _ _ _ _ _ _); first
  | ((with_reducible show CD _ _ (Value.type "int") _ _ _ _); refine cd_int ?_)
  | ((with_reducible show CD _ _ (Value.builtin "abs") _ _ _ _); refine cd_abs ?_)
  | ((with_reducible show CD _ _ (Value.builtin "max") _ _ _ _); refine cd_max2 rfl ?_)
  | ((with_reducible show CD _ _ (Value.builtin "min") _ _ _ _); refine cd_min2 rfl ?_)
  | ((with_reducible show CD _ _ (Value.builtin "isinstance") _ _ _ _); refine cd_isiK (by first | rfl | assumption) (by first | decide | exact tyD_six (by assumption)) (by decide) (by decide) ?_)
  | ((with_reducible show CD _ _ (Value.builtin "len") _ _ _ _); first | refine cd_lenT ?_ | refine cd_lenS ?_ ?_ | refine cd_lenP rfl ?_ | refine cd_lenL rfl ?_)
  | ((with_reducible show CD _ _ (Value.type "tuple") _ _ _ _); first | refine cd_tupleT ?_ | refine cd_tuple rfl ?_)))
local macro_rules | `(tactic| walk_at "I") => `(tactic| ((with_reducible show ID _ _ _ _ _ _ _); first
  | refine id_lstP rfl rfl ?_ | refine id_tup rfl ?_ | refine id_lst rfl rfl ?_ | refine id_str ?_ ?_ ?_))
local macro_rules | `(tactic| walk_at "S") => `(tactic| ((with_reducible show DS _ _ _ _ _ _); first
  | ((with_reducible show DS _ _ (Stmt.Assign [Expr.Name _ _] _ _) _ _ _); walk_at "set")
  | refine ds_ret ?_ | refine ds_retN ?_ | refine ds_if ?_ | refine ds_expr ?_ rfl | refine ds_pass ?_ | refine ds_break ?_ | refine ds_continue ?_
  | ((with_reducible show DS _ _ (Stmt.Assign [Expr.Attribute _ _ _] _ _) _ _ _); refine ds_fld ?_ rfl)
  | ((with_reducible show DS _ _ (Stmt.Assign [Expr.Subscript _ (Expr.Tuple _ _ _) _] _ _) _ _ _); refine ds_dput (by assumption) ?_ rfl)
  | ((with_reducible show DS _ _ (Stmt.Assign [Expr.Subscript _ _ _] _ _) _ _ _); refine ds_setL ?_ (fun _ => rfl) rfl rfl rfl) | refine ds_asg ?_ rfl rfl rfl))
local macro_rules | `(tactic| walk_at "B") => `(tactic| ((with_reducible show DB _ _ _ _ _ _); first | refine db_cons ?_ | refine db_nil ?_))
local macro_rules | `(tactic| walk_at "G") => `(tactic| first
  | ((with_reducible show DG _ _ _ _ _ _ _); first | walk_at "gname" | refine dg_tup rfl rfl rfl rfl ?_)
  | ((with_reducible show DGs _ _ _ _ _ _ _); first | refine dgs_nil ?_ | refine dgs_cons ?_ rfl))
local macro_rules | `(tactic| walk_at "X") => `(tactic| first
  | ((with_reducible show ∃ n ss j i, S.p _ = S.p n ∧ _ ∧ _ ∧ _ ∧ _); refine ⟨_, _, _, _, rfl, rfl, rfl, rfl, ?_⟩)
  | ((with_reducible show ∃ n ss, S.p _ = S.p n ∧ _ ∧ _); refine ⟨_, _, rfl, rfl, ?_⟩)
  | ((with_reducible show ∃ n, S.d (D.int _) = S.d (D.int n) ∧ _ ∧ _ ∧ _); refine ⟨_, rfl, ?_, ?_, ?_⟩)
  | ((with_reducible show ∃ b, S.d (D.bl _) = S.d (D.bl b) ∧ _); refine ⟨_, rfl, ?_⟩)
  | ((with_reducible show ∃ b, S.d (D.int _) = S.d (D.int b) ∧ _); refine ⟨_, rfl, ?_⟩))
local macro_rules | `(tactic| walk_at "D") => `(tactic| ((with_reducible show DO _ _ _ _ _ _); first | refine do_none ?_ | refine do_some ?_))
local macro_rules | `(tactic| walk_at "step") => `(tactic| first | walk_at "E" | walk_at "O" | walk_at "I" | walk_at "A" | walk_at "C" | walk_at "B" | walk_at "S" | walk_at "T" | walk_at "W" | walk_at "G" | walk_at "D" | walk_at "X")
local macro_rules | `(tactic| walk_at "go") => `(tactic| repeat walk_at "step")
local macro_rules | `(tactic| walk_at "goE") => `(tactic| repeat (first | walk_at "E" | walk_at "O" | walk_at "I" | walk_at "A" | walk_at "C" | walk_at "T" | walk_at "W" | walk_at "G" | walk_at "D" | walk_at "X"))

namespace T
set_option pp.deepTerms false
set_option pp.deepTerms.threshold 3
section
variable {P : Program} {w : World} {K : PySem.W.Frag} {mg : Str → Option Value} {base : Heap}


theorem view_p {M : Mem} {n : Nat} {ds : List D} (h : M[n]? = some (.lst (ds.map S.d))) : view M (.p n) = some (.lst ds) := by
  show viewC M[n]? = _
  rw [h]
  show (datas _).map D.lst = _
  rw [datas_map]
  rfl
def sdPlan : Sd := fun ss cs Q => ∃ (n : Nat) (c : C) (ws : List Str) (q : Int), ss = [.p 0, .d (.lst (ws.map D.str)), .d (.int q)] ∧ cs = [c] ∧ Spr n c ∧ n + 900 < 2 ^ 60 ∧ (∀ z ∈ ws, wordB z = true) ∧ ws.Nodup ∧ ws.length ≤ 8 ∧ 1 ≤ q ∧ q ≤ 5 ∧
  ∀ m as es c', MachOk m as es → (∀ a ∈ as, a.2.1 ∈ ws) → Spr (n + 300) c' → Q (.d (.tup [.int m, .tup (as.map arD), .tup (es.map D.int)])) [c']

abbrev sPlan : Stmt := top 37
theorem scPlan : FnScope ["spring", "words", "most", "many", "rows", "thin", "spot", "word", "stops"] ["spring", "words", "most"] (defScope sPlan) := ⟨rfl, rfl, rfl, by decide +kernel, rfl, by decide +kernel, by decide +kernel⟩
section
local macro_rules | `(tactic| walk_at "name") => `(tactic| first
  | ((with_reducible show DE _ _ (Expr.Name (Str.ofString "spring") _) _ _ _); refine de_name (i := 0) rfl (by walk_at "vis") rfl ?_ (by decide) (by decide))
  | ((with_reducible show DE _ _ (Expr.Name (Str.ofString "words") _) _ _ _); refine de_name (i := 1) rfl (by walk_at "vis") rfl ?_ (by decide) (by decide))
  | ((with_reducible show DE _ _ (Expr.Name (Str.ofString "most") _) _ _ _); refine de_name (i := 2) rfl (by walk_at "vis") rfl ?_ (by decide) (by decide))
  | ((with_reducible show DE _ _ (Expr.Name (Str.ofString "many") _) _ _ _); refine de_name (i := 3) rfl (by walk_at "vis") rfl ?_ (by decide) (by decide))
  | ((with_reducible show DE _ _ (Expr.Name (Str.ofString "rows") _) _ _ _); refine de_name (i := 4) rfl (by walk_at "vis") rfl ?_ (by decide) (by decide))
  | ((with_reducible show DE _ _ (Expr.Name (Str.ofString "thin") _) _ _ _); refine de_name (i := 5) rfl (by walk_at "vis") rfl ?_ (by decide) (by decide))
  | ((with_reducible show DE _ _ (Expr.Name (Str.ofString "spot") _) _ _ _); refine de_name (i := 6) rfl (by walk_at "vis") rfl ?_ (by decide) (by decide))
  | ((with_reducible show DE _ _ (Expr.Name (Str.ofString "word") _) _ _ _); refine de_name (i := 7) rfl (by walk_at "vis") rfl ?_ (by decide) (by decide))
  | ((with_reducible show DE _ _ (Expr.Name (Str.ofString "stops") _) _ _ _); refine de_name (i := 8) rfl (by walk_at "vis") rfl ?_ (by decide) (by decide)))
local macro_rules | `(tactic| walk_at "set") => `(tactic| first
  | ((with_reducible show DS _ _ (Stmt.Assign [Expr.Name (Str.ofString "spring") _] _ _) _ _ _); refine ds_set (i := 0) ?_ (by assumption) rfl (by walk_at "loc") rfl (by walk_at "loc"))
  | ((with_reducible show DS _ _ (Stmt.Assign [Expr.Name (Str.ofString "words") _] _ _) _ _ _); refine ds_set (i := 1) ?_ (by assumption) rfl (by walk_at "loc") rfl (by walk_at "loc"))
  | ((with_reducible show DS _ _ (Stmt.Assign [Expr.Name (Str.ofString "most") _] _ _) _ _ _); refine ds_set (i := 2) ?_ (by assumption) rfl (by walk_at "loc") rfl (by walk_at "loc"))
  | ((with_reducible show DS _ _ (Stmt.Assign [Expr.Name (Str.ofString "many") _] _ _) _ _ _); refine ds_set (i := 3) ?_ (by assumption) rfl (by walk_at "loc") rfl (by walk_at "loc"))
  | ((with_reducible show DS _ _ (Stmt.Assign [Expr.Name (Str.ofString "rows") _] _ _) _ _ _); refine ds_set (i := 4) ?_ (by assumption) rfl (by walk_at "loc") rfl (by walk_at "loc"))
  | ((with_reducible show DS _ _ (Stmt.Assign [Expr.Name (Str.ofString "thin") _] _ _) _ _ _); refine ds_set (i := 5) ?_ (by assumption) rfl (by walk_at "loc") rfl (by walk_at "loc"))
  | ((with_reducible show DS _ _ (Stmt.Assign [Expr.Name (Str.ofString "spot") _] _ _) _ _ _); refine ds_set (i := 6) ?_ (by assumption) rfl (by walk_at "loc") rfl (by walk_at "loc"))
  | ((with_reducible show DS _ _ (Stmt.Assign [Expr.Name (Str.ofString "word") _] _ _) _ _ _); refine ds_set (i := 7) ?_ (by assumption) rfl (by walk_at "loc") rfl (by walk_at "loc"))
  | ((with_reducible show DS _ _ (Stmt.Assign [Expr.Name (Str.ofString "stops") _] _ _) _ _ _); refine ds_set (i := 8) ?_ (by assumption) rfl (by walk_at "loc") rfl (by walk_at "loc")))
local macro_rules | `(tactic| walk_at "gname") => `(tactic| first
  | ((with_reducible show DG _ _ (Expr.Name (Str.ofString "spring") _) _ _ _ _); refine dg_name (i := 0) (by assumption) rfl (by walk_at "loc") (by walk_at "loc") ?_)
  | ((with_reducible show DG _ _ (Expr.Name (Str.ofString "words") _) _ _ _ _); refine dg_name (i := 1) (by assumption) rfl (by walk_at "loc") (by walk_at "loc") ?_)
  | ((with_reducible show DG _ _ (Expr.Name (Str.ofString "most") _) _ _ _ _); refine dg_name (i := 2) (by assumption) rfl (by walk_at "loc") (by walk_at "loc") ?_)
  | ((with_reducible show DG _ _ (Expr.Name (Str.ofString "many") _) _ _ _ _); refine dg_name (i := 3) (by assumption) rfl (by walk_at "loc") (by walk_at "loc") ?_)
  | ((with_reducible show DG _ _ (Expr.Name (Str.ofString "rows") _) _ _ _ _); refine dg_name (i := 4) (by assumption) rfl (by walk_at "loc") (by walk_at "loc") ?_)
  | ((with_reducible show DG _ _ (Expr.Name (Str.ofString "thin") _) _ _ _ _); refine dg_name (i := 5) (by assumption) rfl (by walk_at "loc") (by walk_at "loc") ?_)
  | ((with_reducible show DG _ _ (Expr.Name (Str.ofString "spot") _) _ _ _ _); refine dg_name (i := 6) (by assumption) rfl (by walk_at "loc") (by walk_at "loc") ?_)
  | ((with_reducible show DG _ _ (Expr.Name (Str.ofString "word") _) _ _ _ _); refine dg_name (i := 7) (by assumption) rfl (by walk_at "loc") (by walk_at "loc") ?_)
  | ((with_reducible show DG _ _ (Expr.Name (Str.ofString "stops") _) _ _ _ _); refine dg_name (i := 8) (by assumption) rfl (by walk_at "loc") (by walk_at "loc") ?_))

theorem ok_Plan {f : Addr} {fd : FuncData} (FF : Fun K "_law_plan" "_law_plan" sPlan f fd) (m1 : mg "range" = none) (m2 : mg "len" = none) (m3 : mg "tuple" = none) (c1 : Cal P w K mg base 1 "_law_roll" ["spring", "many"] sdRoll) : FnG P w K mg base CX0 2 f fd ["spring", "words", "most"] (spOf K 3 sdPlan) := by
  have nd := scPlan.nd
  refine fn_ok FF scPlan ?_
  intro cdv A outer s H E F ss cs Q hr hgu hsd hl hθ
  obtain ⟨n, c, ws, q, rfl, rfl, hs, hn, hw, hnd, hl8, q1, q5, k⟩ := hsd
  refine db_cons (ds_par (i := 3) (j := 4) rfl nd rfl rfl (by decide) rfl rfl rfl rfl ?_ rfl rfl)
  walk_at "go"
  refine spd1' (n := 0) rfl hs.flat rfl rfl ⟨n, c, q, rfl, rfl, hs, by omega, by omega, by omega, fun r c0 r0 r1 h0 => ⟨c0, rfl, got_d ?_⟩⟩
  walk_at "go"
  refine And.intro (Nat.zero_le _) ?_
  walk_at "go"
  refine spd1' (n := 0) rfl h0.flat rfl rfl ⟨n + 1, c0, 3, rfl, rfl, h0, by omega, by omega, by omega, fun th c2 t0 t1 h2 => ⟨c2, rfl, got_d ?_⟩⟩
  walk_at "go"
  refine ds_forR PassesOwn.never rfl rfl m1 (fun _ => rfl) rfl ?_
  walk_at "go"
  any_goals omega
  refine ⟨fun i ρ M => ∃ (as : List Arr) (x y z : Option S) (c : C), ρ = [some (.p 0), some (.d (.lst (ws.map D.str))), some (.d (.int q)), some (.d (.int (1 + r))), some (.p 1), some (.d (.int th)), x, y, z] ∧ M = [c, rowC as] ∧ PlanOk (1 + r) ws i 0 as ∧ Spr (n + 2 + 24 * i) c, ⟨[], _, _, _, c2, rfl, rfl, ⟨(fun a h => nomatch h), (fun a h => nomatch h), (fun a h => nomatch h), List.nodup_nil, Nat.zero_le _⟩, h2⟩, ?_, ?_⟩
  · rintro i ρ' M' hi ⟨as, x, y, z, c, rfl, rfl, pk, hs⟩
    walk_at "go"
    refine ds_forL PassesOwn.never rfl (fun _ => rfl) ?_
    walk_at "go"
    refine ⟨_, rfl, fun j ρ M => ∃ (as : List Arr) (y z : Option S) (c : C), ρ = [some (.p 0), some (.d (.lst (ws.map D.str))), some (.d (.int q)), some (.d (.int (1 + r))), some (.p 1), some (.d (.int th)), some (.d (.int i)), y, z] ∧ M = [c, rowC as] ∧ PlanOk (1 + r) ws i j as ∧ Spr (n + 2 + 24 * i + 3 * j) c, ⟨as, _, _, c, rfl, rfl, pk, hs⟩, ?_, ?_⟩
    · rintro j d ρ' M' hd ⟨as, y, z, c, rfl, rfl, pk, hs⟩
      rw [List.getElem?_map] at hd
      obtain ⟨wd, hwd, rfl⟩ := Option.map_eq_some_iff.mp hd
      have hj : j < ws.length := (List.getElem?_eq_some_iff.mp hwd).1
      walk_at "go"
      refine ⟨fun h40 => ?_, fun _ => ⟨(fun h => nomatch h), fun _ => db_nil ?_⟩⟩
      · have h40 : as.length < 40 := by
          have := of_decide_eq_true h40
          simp at this
          omega
        walk_at "go"
        refine spd1' (n := 0) rfl hs.flat rfl rfl ⟨_, c, 2 + th, rfl, rfl, hs, by omega, by omega, by omega, fun r2 c3 _ _ h3 => ⟨c3, rfl, got_d ?_⟩⟩
        walk_at "go"
        refine ⟨fun _ => ?_, fun _ => db_nil ?_⟩
        · walk_at "go"
          have lr : ((as.map arD).map S.d).length = as.length := by simp
          refine spd1' (n := 0) rfl h3.flat rfl rfl ⟨_, c3, _, rfl, rfl, h3, by omega, by omega, by omega, fun p c4 p0 p1 h4 => ⟨c4, rfl, got_d ?_⟩⟩
          refine ⟨p, rfl, p0, by omega, ?_⟩
          walk_at "go"
          refine spd1' (n := 0) rfl h4.flat rfl rfl ⟨_, c4, 1 + r, rfl, rfl, h4, by omega, by omega, by omega, fun t c5 t0 t1 h5 => ⟨c5, rfl, got_d ?_⟩⟩
          walk_at "go"
          refine ⟨_, rfl, show 3 ≤ sizeLine by decide, ?_⟩
          refine ⟨_, rfl, by rw [lr, sizeLine_eq]; omega, ?_⟩
          refine db_nil ?_
          refine db_nil ?_
          refine ⟨as.take p.toNat ++ [((i : Int), wd, t)] ++ as.drop p.toNat, _, _, c5, rfl, ?_, pk.ins hwd hnd t0 t1 h40, h5.mono (by omega)⟩
          simp [rowC]
        · refine db_nil ?_
          exact ⟨as, _, _, c3, rfl, rfl, pk.skip, h3.mono (by omega)⟩
      · refine db_nil ?_
        exact ⟨as, _, _, c, rfl, rfl, pk.skip, hs.mono (by omega)⟩
    · rintro ρ' M' ⟨as, y, z, c, rfl, rfl, pk, hs⟩
      refine db_nil ?_
      rw [List.length_map] at *
      exact ⟨as, _, _, _, c, rfl, rfl, pk.next, hs.mono (by omega)⟩
  · rintro ρ' M' ⟨as, x, y, z, c, rfl, rfl, pk, hs⟩
    walk_at "go"
    refine And.intro (Nat.zero_le _) ?_
    walk_at "go"
    have hm : (1 + r).toNat ≤ 5 := by omega
    refine ds_forR PassesOwn.never rfl rfl m1 (fun _ => rfl) rfl ?_
    walk_at "go"
    any_goals omega
    refine ⟨fun i ρ M => ∃ (es : List Int) (x y : Option S) (c : C), ρ = [some (.p 0), some (.d (.lst (ws.map D.str))), some (.d (.int q)), some (.d (.int (1 + r))), some (.p 1), some (.d (.int th)), x, y, some (.p 2)] ∧ M = [c, rowC as, numC es] ∧ (∀ e ∈ es, 0 ≤ e ∧ e < i) ∧ es.Nodup ∧ es.length ≤ i ∧ Spr (n + 2 + 24 * 5 + 2 * i) c, ⟨[], _, _, c, rfl, rfl, (fun a h => nomatch h), List.nodup_nil, Nat.le_refl _, hs.mono (by omega)⟩, ?_, ?_⟩
    · rintro i ρ' M' hi ⟨es, x, y, c, rfl, rfl, hes, hnd2, hl, hs⟩
      walk_at "go"
      refine spd1' (n := 0) rfl hs.flat rfl rfl ⟨_, c, 2, rfl, rfl, hs, by omega, by omega, by omega, fun r2 c3 _ _ h3 => ⟨c3, rfl, got_d ?_⟩⟩
      walk_at "go"
      refine ⟨fun _ => ?_, fun _ => db_nil ?_⟩
      · walk_at "go"
        have lr : ((es.map D.int).map S.d).length = es.length := by simp
        refine spd1' (n := 0) rfl h3.flat rfl rfl ⟨_, c3, _, rfl, rfl, h3, by omega, by omega, by omega, fun p c4 p0 p1 h4 => ⟨c4, rfl, got_d ?_⟩⟩
        refine ⟨p, rfl, p0, by omega, ?_⟩
        walk_at "go"
        refine ⟨_, rfl, by rw [lr, sizeLine_eq]; omega, ?_⟩
        refine db_nil ?_
        refine db_nil ?_
        have pm := ins_perm es p.toNat (i : Int)
        refine ⟨es.take p.toNat ++ [(i : Int)] ++ es.drop p.toNat, _, _, c4, rfl, by simp [rowC, numC], fun e he => ?_, ?_, ?_, h4.mono (by omega)⟩
        · rcases List.mem_cons.mp (pm.mem_iff.mp he) with rfl | he
          · omega
          · have := hes e he
            omega
        · refine pm.nodup_iff.2 (List.nodup_cons.2 ⟨fun he => ?_, hnd2⟩)
          have := hes _ he
          omega
        · rw [pm.length_eq, List.length_cons]; omega
      · refine db_nil ?_
        exact ⟨es, _, _, c3, rfl, rfl, fun e he => by have := hes e he; omega, hnd2, by omega, h3.mono (by omega)⟩
    · rintro ρ' M' ⟨es, x, y, c, rfl, rfl, hes, hnd2, hl, hs⟩
      walk_at "go"
      refine cd_tuple (view_p (ds := as.map arD) rfl) ?_
      walk_at "go"
      refine cd_tuple (view_p (ds := es.map D.int) rfl) ?_
      walk_at "go"
      refine ⟨_, rfl, show 3 ≤ sizeLine by decide, ?_⟩
      refine rets_d (by simp [hs.flat]) (k (1 + r) as es c ⟨by omega, by omega, ⟨fun a ha => ?_, fun a ha => hw _ (pk.wd a ha), pk.tg, pk.nd, pk.ln⟩, ⟨fun e he => ?_, hnd2, by omega⟩⟩ (fun a ha => pk.wd a ha) (hs.mono (by omega)))
      · obtain ⟨z1, z2⟩ := pk.at_ a ha
        refine ⟨z1, ?_⟩
        rcases z2 with z | ⟨_, z⟩
        · omega
        · simp at z
      · have := hes e he
        omega

end
end
end T
end

section
set_option Elab.async false
set_option linter.all false
set_option maxRecDepth 100000
set_option maxHeartbeats 2000000
open PySem PySem.Spec PyProof.Rows L2 DL

local macro_rules | `(tactic| walk_at "vis") => `(tactic| first | exact Or.inl rfl | exact Or.inr (Or.inl rfl) | exact Or.inr (Or.inr rfl))
local macro_rules | `(tactic| walk_at "loc") => `(tactic| first | exact Or.inl rfl | exact Or.inr rfl)
local macro_rules | `(tactic| walk_at "side") => `(tactic| first | assumption | omega | decide)
local macro_rules | `(tactic| walk_at "callB") => `(tactic| first
  | ((with_reducible show DE _ _ (Expr.Call (Expr.Name (Str.ofString "len") _) _ _ _) _ _ _); refine de_callB (id := "len") rfl (by assumption) (by decide +kernel) (by decide) (by decide) rfl rfl ?_)
  | ((with_reducible show DE _ _ (Expr.Call (Expr.Name (Str.ofString "max") _) _ _ _) _ _ _); refine de_callB (id := "max") rfl (by assumption) (by decide +kernel) (by decide) (by decide) rfl rfl ?_)
  | ((with_reducible show DE _ _ (Expr.Call (Expr.Name (Str.ofString "min") _) _ _ _) _ _ _); refine de_callB (id := "min") rfl (by assumption) (by decide +kernel) (by decide) (by decide) rfl rfl ?_)
  | ((with_reducible show DE _ _ (Expr.Call (Expr.Name (Str.ofString "abs") _) _ _ _) _ _ _); refine de_callB (id := "abs") rfl (by assumption) (by decide +kernel) (by decide) (by decide) rfl rfl ?_)
  | ((with_reducible show DE _ _ (Expr.Call (Expr.Name (Str.ofString "repr") _) _ _ _) _ _ _); refine de_callB (id := "repr") rfl (by assumption) (by decide +kernel) (by decide) (by decide) rfl rfl ?_)
  | ((with_reducible show DE _ _ (Expr.Call (Expr.Name (Str.ofString "isinstance") _) _ _ _) _ _ _); refine de_callB (id := "isinstance") rfl (by assumption) (by decide +kernel) (by decide) (by decide) rfl rfl ?_)
  | ((with_reducible show DE _ _ (Expr.Call (Expr.Name (Str.ofString "sorted") _) _ _ _) _ _ _); refine de_callB (id := "sorted") rfl (by assumption) (by decide +kernel) (by decide) (by decide) rfl rfl ?_)
  | ((with_reducible show DE _ _ (Expr.Call (Expr.Name (Str.ofString "all") _) _ _ _) _ _ _); refine de_callB (id := "all") rfl (by assumption) (by decide +kernel) (by decide) (by decide) rfl rfl ?_)
  | ((with_reducible show DE _ _ (Expr.Call (Expr.Name (Str.ofString "any") _) _ _ _) _ _ _); refine de_callB (id := "any") rfl (by assumption) (by decide +kernel) (by decide) (by decide) rfl rfl ?_)
  | ((with_reducible show DE _ _ (Expr.Call (Expr.Name (Str.ofString "sum") _) _ _ _) _ _ _); refine de_callB (id := "sum") rfl (by assumption) (by decide +kernel) (by decide) (by decide) rfl rfl ?_)
  | ((with_reducible show DE _ _ (Expr.Call (Expr.Name (Str.ofString "int") _) _ _ _) _ _ _); refine de_callTy (T := "int") rfl (by assumption) (by decide +kernel) (by decide) (by decide) rfl rfl ?_)
  | ((with_reducible show DE _ _ (Expr.Call (Expr.Name (Str.ofString "tuple") _) _ _ _) _ _ _); refine de_callTy (T := "tuple") rfl (by assumption) (by decide +kernel) (by decide) (by decide) rfl rfl ?_)
  | ((with_reducible show DE _ _ (Expr.Call (Expr.Name (Str.ofString "list") _) _ _ _) _ _ _); refine de_callTy (T := "list") rfl (by assumption) (by decide +kernel) (by decide) (by decide) rfl rfl ?_)
  | ((with_reducible show DE _ _ (Expr.Call (Expr.Name (Str.ofString "set") _) _ _ _) _ _ _); refine de_callTy (T := "set") rfl (by assumption) (by decide +kernel) (by decide) (by decide) rfl rfl ?_)
  | ((with_reducible show DE _ _ (Expr.Call (Expr.Name (Str.ofString "str") _) _ _ _) _ _ _); refine de_callTy (T := "str") rfl (by assumption) (by decide +kernel) (by decide) (by decide) rfl rfl ?_))
local macro_rules | `(tactic| walk_at "own") => `(tactic| refine de_own (by assumption) (by assumption) (by assumption) (by decide) rfl (by decide) rfl rfl ?_)
local macro_rules | `(tactic| walk_at "bname") => `(tactic| first
  | ((with_reducible show DE _ _ (Expr.Name (Str.ofString "LETTERS") _) _ _ _); refine de_glob (v := .str abc) rfl (by assumption) ⟨_, rfl⟩ (fun _ => .str _) ?_ (by decide))
  | ((with_reducible show DE _ _ (Expr.Name (Str.ofString "LONGEST_WORD") _) _ _ _); refine de_glob (v := .int 8) rfl (by assumption) ⟨_, rfl⟩ (fun _ => .int _) ?_ (by decide))
  | ((with_reducible show DE _ _ (Expr.Name (Str.ofString "MOST_STATES") _) _ _ _); refine de_glob (v := .int 5) rfl (by assumption) ⟨_, rfl⟩ (fun _ => .int _) ?_ (by decide))
  | ((with_reducible show DE _ _ (Expr.Name (Str.ofString "MOST_ARROWS") _) _ _ _); refine de_glob (v := .int 40) rfl (by assumption) ⟨_, rfl⟩ (fun _ => .int _) ?_ (by decide))
  | ((with_reducible show DE _ _ (Expr.Name (Str.ofString "int") _) _ _ _); refine de_bltn (v := .ty "int") rfl (by assumption) (by decide +kernel) rfl ?_ (by decide) (by decide))
  | ((with_reducible show DE _ _ (Expr.Name (Str.ofString "bool") _) _ _ _); refine de_bltn (v := .ty "bool") rfl (by assumption) (by decide +kernel) rfl ?_ (by decide) (by decide))
  | ((with_reducible show DE _ _ (Expr.Name (Str.ofString "str") _) _ _ _); refine de_bltn (v := .ty "str") rfl (by assumption) (by decide +kernel) rfl ?_ (by decide) (by decide))
  | ((with_reducible show DE _ _ (Expr.Name (Str.ofString "tuple") _) _ _ _); refine de_bltn (v := .ty "tuple") rfl (by assumption) (by decide +kernel) rfl ?_ (by decide) (by decide))
  | ((with_reducible show DE _ _ (Expr.Name (Str.ofString "list") _) _ _ _); refine de_bltn (v := .ty "list") rfl (by assumption) (by decide +kernel) rfl ?_ (by decide) (by decide)))
local macro_rules | `(tactic| walk_at "E") => `(tactic| ((with_reducible show DE _ _ _ _ _ _); first
  | ((with_reducible show DE _ _ (Expr.Name _ _) _ _ _); first | walk_at "name" | walk_at "bname")
  | refine de_int ?_ | refine de_str ?_ | refine de_bl ?_ | refine de_non ?_
  | ((with_reducible show DE _ _ (Expr.Subscript _ (Expr.Tuple _ _ _) _) _ _ _); refine de_dget (by assumption) ?_ (fun _ _ => rfl))
  | ((with_reducible show DE _ _ (Expr.Subscript _ (Expr.Slice _ _ _ _) _) _ _ _); first | refine de_revS ?_ | refine de_slice ?_)
  | refine de_ix ?_ (fun _ _ => rfl)
  | refine de_bin ?_ | refine de_cmp ?_ (by first | exact nomark _ | rfl) | refine de_chain ?_ rfl
  | refine de_one ?_ | refine de_neg ?_ | refine de_and ?_ | refine de_or ?_ | refine de_not ?_ | refine de_if ?_
  | refine de_tup ?_ | refine de_lstP (es := []) ?_ | refine de_lst ?_
  | ((with_reducible show DE _ _ (Expr.Call (Expr.Name _ _) _ _ _) _ _ _); first | walk_at "callB" | walk_at "own")
  | ((with_reducible show DE _ _ (Expr.Call (Expr.Attribute _ (Str.ofString "append") _) _ _ _) _ _ _); refine de_append ?_ rfl rfl rfl rfl rfl)
  | ((with_reducible show DE _ _ (Expr.Call (Expr.Attribute _ (Str.ofString "insert") _) _ _ _) _ _ _); refine de_insert ?_ rfl rfl rfl rfl rfl rfl)))
local macro_rules | `(tactic| walk_at "T") => `(tactic| ((with_reducible show DT _ _ _ _ _ _); first
  | ((with_reducible show DT _ _ (Expr.Compare (Expr.Tuple _ _ _) [CmpOp.In] _ _) _ _ _); refine dt_din (by assumption) ?_ rfl)
  | refine dt_cmp ?_ (by first | exact nomark _ | rfl) | refine dt_chain ?_ rfl | refine dt_not ?_ | refine dt_w (dw_and ?_) | refine dt_w (dw_or ?_) | refine dt_val ?_ (fun _ => rfl)))
local macro_rules | `(tactic| walk_at "W") => `(tactic| ((with_reducible show DW _ _ _ _ _ _); first
  | refine dw_and ?_ | refine dw_or ?_ | refine dw_and1 ?_ | refine dw_or1 ?_))
local macro_rules | `(tactic| walk_at "A") => `(tactic| ((with_reducible show DA _ _ _ _ _ _); first | refine da_nil ?_ | refine da_cons ?_ rfl))
local macro_rules | `(tactic| walk_at "O") => `(tactic| ((with_reducible show BD _ _ _ _ _ _ _ _); first
  | ((with_reducible show BD _ _ (binaryOp Operator.Add) (S.d (D.int _)) (S.d (D.int _)) _ _ _); refine bd_add ?_)
  | ((with_reducible show BD _ _ (binaryOp Operator.Add) (S.d (D.str _)) (S.d (D.str _)) _ _ _); refine bd_addS ?_ ?_)
  | ((with_reducible show BD _ _ (binaryOp Operator.Sub) (S.d (D.int _)) (S.d (D.int _)) _ _ _); refine bd_sub ?_)
  | ((with_reducible show BD _ _ (binaryOp Operator.Mod) (S.d (D.int _)) (S.d (D.int _)) _ _ _); refine bd_mod (by walk_at "side") ?_)
  | ((with_reducible show BD _ _ (binaryOp Operator.Mult) (S.d (D.int _)) (S.d (D.int _)) _ _ _); refine bd_mul ?_ ?_)
  | ((with_reducible show BD _ _ (binaryOp Operator.FloorDiv) (S.d (D.int _)) (S.d (D.int _)) _ _ _); refine bd_fdivW ?_ ?_)
  | ((with_reducible show BD _ _ (binaryOp Operator.Pow) (S.d (D.int _)) (S.d (D.int _)) _ _ _); refine bd_pow ?_ ?_)
  | ((with_reducible show BD _ _ (compareOp CmpOp.Lt) (S.d (D.int _)) (S.d (D.int _)) _ _ _); refine bd_lt ?_)
  | ((with_reducible show BD _ _ (compareOp CmpOp.LtE) (S.d (D.int _)) (S.d (D.int _)) _ _ _); refine bd_le ?_)
  | ((with_reducible show BD _ _ (compareOp CmpOp.Gt) (S.d (D.int _)) (S.d (D.int _)) _ _ _); refine bd_gt ?_)
  | ((with_reducible show BD _ _ (compareOp CmpOp.GtE) (S.d (D.int _)) (S.d (D.int _)) _ _ _); refine bd_ge ?_)
  | ((with_reducible show BD _ _ (compareOp CmpOp.Eq) (S.d (D.int _)) (S.d (D.int _)) _ _ _); refine bd_eqI ?_)
  | ((with_reducible show BD _ _ (compareOp CmpOp.NotEq) (S.d (D.int _)) (S.d (D.int _)) _ _ _); refine bd_neI ?_)
  | ((with_reducible show BD _ _ (compareOp CmpOp.Eq) (S.d (D.str _)) (S.d (D.str _)) _ _ _); refine bd_eqS ?_)
  | ((with_reducible show BD _ _ (compareOp CmpOp.NotEq) (S.d (D.str _)) (S.d (D.str _)) _ _ _); refine bd_neS ?_)
  | ((with_reducible show BD _ _ (compareOp CmpOp.Is) _ (S.d D.non) _ _ _); refine bd_isN (by first | (intro y h; cases h) | assumption) ?_)
  | ((with_reducible show BD _ _ (compareOp CmpOp.IsNot) _ (S.d D.non) _ _ _); refine bd_notN (by first | (intro y h; cases h) | assumption) ?_)))
local macro_rules | `(tactic| walk_at "C") => `(tactic| ((with_reducible show CD _ _ _ _ _ _ _); first
  | ((with_reducible show CD _ _ (Value.type "int") _ _ _ _); refine cd_int ?_)
  | ((with_reducible show CD _ _ (Value.builtin "abs") _ _ _ _); refine cd_abs ?_)
  | ((with_reducible show CD _ _ (Value.builtin "max") _ _ _ _); refine cd_max2 rfl ?_)
  | ((with_reducible show CD _ _ (Value.builtin "min") _ _ _ _); refine cd_min2 rfl ?_)
  | ((with_reducible show CD _ _ (Value.builtin "isinstance") _ _ _ _); refine cd_isiK (by first | rfl | assumption) (by first | decide | exact tyD_six (by assumption)) (by decide) (by decide) ?_)
  | ((with_reducible show CD _ _ (Value.builtin "len") _ _ _ _); first | refine cd_lenT ?_ | refine cd_lenS ?_ ?_ | refine cd_lenP rfl ?_ | refine cd_lenL rfl ?_)
  | ((with_reducible show CD _ _ (Value.type "tuple") _ _ _ _); first | refine cd_tupleT ?_ | refine cd_tuple rfl ?_)))
local macro_rules | `(tactic| walk_at "I") => `(tactic| ((with_reducible show ID _ _ _ _ _ _ _); first
  | refine id_lstP rfl rfl ?_ | refine id_tup rfl ?_ | refine id_lst rfl rfl ?_ | refine id_str ?_ ?_ ?_))
local macro_rules | `(tactic| walk_at "S") => `(tactic| ((with_reducible show DS _ _ _ _ _ _); first
  | ((with_reducible show DS _ _ (Stmt.Assign [Expr.Name _ _] _ _) _ _ _); walk_at "set")
  | refine ds_ret ?_ | refine ds_retN ?_ | refine ds_if ?_ | refine ds_expr ?_ rfl | refine ds_pass ?_ | refine ds_break ?_ | refine ds_continue ?_
  | ((with_reducible show DS _ _ (Stmt.Assign [Expr.Attribute _ _ _] _ _) _ _ _); refine ds_fld ?_ rfl)
  | ((with_reducible show DS _ _ (Stmt.Assign [Expr.Subscript _ (Expr.Tuple _ _ _) _] _ _) _ _ _); refine ds_dput (by assumption) ?_ rfl)
  | ((with_reducible show DS _ _ (Stmt.Assign [Expr.Subscript _ _ _] _ _) _ _ _); refine ds_setL ?_ (fun _ => rfl) rfl rfl rfl) | refine ds_asg ?_ rfl rfl rfl))
local macro_rules | `(tactic| walk_at "B") => `(tactic| ((with_reducible show DB _ _ _ _ _ _); first | refine db_cons ?_ | refine db_nil ?_))
local macro_rules | `(tactic| walk_at "G") => `(tactic| first
  | ((with_reducible show DG _ _ _ _ _ _ _); first | walk_at "gname" | refine dg_tup rfl rfl rfl rfl ?_)
  | ((with_reducible show DGs _ _ _ _ _ _ _); first | refine dgs_nil ?_ | refine dgs_cons ?_ rfl))
local macro_rules | `(tactic| walk_at "X") => `(tactic| first
  | ((with_reducible show ∃ n ss j i, S.p _ = S.p n ∧ _ ∧ _ ∧ _ ∧ _); refine ⟨_, _, _, _, rfl, rfl, rfl, rfl, ?_⟩)
  | ((with_reducible show ∃ n ss, S.p _ = S.p n ∧ _ ∧ _); refine ⟨_, _, rfl, rfl, ?_⟩)
  | ((with_reducible show ∃ n, S.d (D.int _) = S.d (D.int n) ∧ _ ∧ _ ∧ _); refine ⟨_, rfl, ?_, ?_, ?_⟩)
  | ((with_reducible show ∃ b, S.d (D.bl _) = S.d (D.bl b) ∧ _); refine ⟨_, rfl, ?_⟩)
  | ((with_reducible show ∃ b, S.d (D.int _) = S.d (D.int b) ∧ _); refine ⟨_, rfl, ?_⟩))
local macro_rules | `(tactic| walk_at "L") => `(tactic| ((with_reducible show LD _ _ _ _ _ _ _ _); first
  | ((with_reducible show LD _ _ (S.d (D.tup _)) _ _ _ _ _); refine ld_tup ?_)))
local macro_rules | `(tactic| walk_at "D") => `(tactic| ((with_reducible show DO _ _ _ _ _ _); first | refine do_none ?_ | refine do_some ?_))
local macro_rules | `(tactic| walk_at "step") => `(tactic| first | walk_at "E" | walk_at "O" | walk_at "I" | walk_at "A" | walk_at "C" | walk_at "B" | walk_at "S" | walk_at "T" | walk_at "W" | walk_at "G" | walk_at "D" | walk_at "L" | walk_at "X")
local macro_rules | `(tactic| walk_at "go") => `(tactic| repeat walk_at "step")
local macro_rules | `(tactic| walk_at "goE") => `(tactic| repeat (first | walk_at "E" | walk_at "O" | walk_at "I" | walk_at "A" | walk_at "C" | walk_at "T" | walk_at "W" | walk_at "G" | walk_at "D" | walk_at "L" | walk_at "X"))

namespace T
set_option pp.deepTerms false
set_option pp.deepTerms.threshold 3
section
variable {P : Program} {w : World} {K : PySem.W.Frag} {mg : Str → Option Value} {base : Heap}


theorem sum_perm : ∀ {xs ys : List Int}, xs.Perm ys → xs.sum = ys.sum := by
  intro xs ys h
  induction h with
  | nil => rfl
  | cons x _ ih => rw [List.sum_cons, List.sum_cons, ih]
  | swap x y l => simp only [List.sum_cons]; omega
  | trans _ _ h1 h2 => rw [h1, h2]
theorem back_perm {as bs : List Arr} (h : as.Perm bs) : back as = back bs := funext fun g => funext fun q => sum_perm (h.map _)
theorem ind_perm {es fs : List Int} (h : es.Perm fs) : ind es = ind fs := funext fun q => by
  unfold ind
  simp only [h.mem_iff]
theorem bws_perm {as bs : List Arr} {es fs : List Int} (ha : as.Perm bs) (he : es.Perm fs) : ∀ k, bws as es k = bws bs fs k
  | 0 => ind_perm he
  | k + 1 => by
    show back as (bws as es k) = back bs (bws bs fs k)
    rw [back_perm ha, bws_perm ha he k]
theorem vecI_len (m : Int) (g : Int → Int) : (vecI m g).length = m.toNat := by simp [vecI]
theorem vecI_get {m : Int} {j : Int} (g : Int → Int) (h0 : 0 ≤ j) (h1 : j < m) : (vecI m g)[j.toNat]? = some (g j) := by
  unfold vecI
  rw [List.getElem?_map, List.getElem?_range (by omega)]
  show some (g ((j.toNat : Nat) : Int)) = _
  rw [Int.toNat_of_nonneg h0]
theorem vecI_set {m : Int} {j : Int} (g : Int → Int) (x : Int) (h0 : 0 ≤ j) (h1 : j < m) : (vecI m g).set j.toNat x = vecI m fun q => if j = q then x else g q := by
  unfold vecI
  apply List.ext_getElem?
  intro n
  rw [List.getElem?_set, List.getElem?_map, List.getElem?_map, List.length_map, List.length_range]
  by_cases hn : n < m.toNat
  · rw [List.getElem?_range hn]
    by_cases e : j.toNat = n
    · rw [if_pos e, if_pos (by omega)]
      show some x = some (if j = ((n : Nat) : Int) then x else g n)
      rw [if_pos (by omega)]
    · rw [if_neg e]
      show some (g n) = some (if j = ((n : Nat) : Int) then x else g n)
      rw [if_neg (by omega)]
  · rw [if_neg (by omega), List.getElem?_eq_none (by rw [List.length_range]; omega)]
    rfl
theorem back_snoc (as : List Arr) (a : Arr) (g : Int → Int) (q : Int) : back (as ++ [a]) g q = back as g q + if a.1 = q then g a.2.2 else 0 := by
  unfold back
  rw [List.map_append, List.sum_append]
  simp
theorem vec_step {m : Int} (as : List Arr) (a : Arr) (g : Int → Int) (h0 : 0 ≤ a.1) (h1 : a.1 < m) : (vecI m (back as g)).set a.1.toNat (back as g a.1 + g a.2.2) = vecI m (back (as ++ [a]) g) := by
  rw [vecI_set _ _ h0 h1]
  congr 1
  funext q
  rw [back_snoc]
  by_cases e : a.1 = q
  · subst e
    rw [if_pos rfl, if_pos rfl]
  · rw [if_neg e, if_neg e, Int.add_zero]
theorem vecI_zero (m : Int) (g : Int → Int) : (List.replicate m.toNat [(0 : Int)]).flatten = vecI m (back [] g) := by
  unfold vecI
  show _ = (List.range m.toNat).map fun _ => (0 : Int)
  rw [List.map_const', List.length_range]
  simp
def rowsD (m : Int) (as : List Arr) (es : List Int) (n : Nat) : List D := (List.range n).map fun k => D.lst ((vecI m (bws as es k)).map D.int)
theorem flatDs_ints : ∀ es : List Int, flatDs (es.map D.int) = some (es.map V.int)
  | [] => rfl
  | e :: es => by
    show flatDs (D.int e :: es.map D.int) = _
    simp only [flatDs, flatD, flatDs_ints es, Option.bind_some, Option.map_some, List.map_cons] <;> rfl
theorem rep_zero (n : Nat) : (List.replicate n [D.int 0]).flatten = ((List.replicate n [(0 : Int)]).flatten).map D.int := by
  induction n with
  | zero => rfl
  | succ n ih => rw [List.replicate_succ, List.replicate_succ, List.flatten_cons, List.flatten_cons, ih, List.map_append]; rfl
theorem atI_back {α : Type} {xs : List α} {n : Nat} {x : α} (h : xs.length = n + 1) (hx : xs[n]? = some x) : atI xs (-1) = some x := by
  unfold atI ixN
  rw [if_neg (by decide), if_pos (by rw [h]; omega)]
  show xs[(-1 + (xs.length : Int)).toNat]? = _
  rw [h, show (-1 + ((n + 1 : Nat) : Int)).toNat = n by omega, hx]
theorem atI_at {α : Type} {xs : List α} {j : Int} {x : α} (h0 : 0 ≤ j) (h1 : j < xs.length) (hx : xs[j.toNat]? = some x) : atI xs j = some x := by
  unfold atI ixN
  rw [if_pos h0, if_pos h1]
  exact hx
theorem ind_vec (m : Int) (es : List Int) : (List.range m.toNat).map (fun i => D.int (ind es (i : Nat))) = (vecI m (ind es)).map D.int := by
  unfold vecI
  rw [List.map_map]
  rfl
theorem rowsD_succ (m : Int) (as : List Arr) (es : List Int) (n : Nat) : rowsD m as es (n + 1) = rowsD m as es n ++ [D.lst ((vecI m (bws as es n)).map D.int)] := by
  unfold rowsD
  rw [List.range_succ, List.map_append]
  rfl
theorem rowsD_len (m : Int) (as : List Arr) (es : List Int) (n : Nat) : (rowsD m as es n).length = n := by simp [rowsD]
theorem rowsD_get {m : Int} {as : List Arr} {es : List Int} {n k : Nat} (h : k < n) : (rowsD m as es n)[k]? = some (D.lst ((vecI m (bws as es k)).map D.int)) := by
  unfold rowsD
  rw [List.getElem?_map, List.getElem?_range h]
  rfl
theorem rowsD_perm {m : Int} {as bs : List Arr} {es fs : List Int} (ha : as.Perm bs) (he : es.Perm fs) (n : Nat) : rowsD m as es n = rowsD m bs fs n := by
  unfold rowsD
  simp only [bws_perm ha he]
def sdCL : Sd := fun ss cs Q => ∃ L : Int, ss = [.d (.int L)] ∧ 0 ≤ L ∧ L ≤ 200 ∧ cs = [] ∧ Q (.d .non) []
def sdCo (C : Addr) : Sd := fun ss cs Q => ∃ (m : Int) (as : List Arr) (es : List Int) (L : Int), ss = [.d (.ins C (mach m as es)), .d (.int L)] ∧ MachOk m as es ∧ 0 ≤ L ∧ L ≤ 200 ∧ cs = [] ∧ Q (.d (.lst (rowsD m as es (L.toNat + 1)))) []
def sdRC (C : Addr) : Sd := fun ss cs Q => ∃ (m : Int) (as : List Arr) (es : List Int) (L : Int), ss = [.d (.ins C (mach m as es)), .d (.int L)] ∧ MachOk m as es ∧ 0 ≤ L ∧ L ≤ 200 ∧ cs = [] ∧ Q (.d (.int (bws as es L.toNat 0))) []

abbrev sCL : Stmt := top 17
theorem scCL : FnScope ["length"] ["length"] (defScope sCL) := ⟨rfl, rfl, rfl, by decide +kernel, rfl, by decide +kernel, by decide +kernel⟩
section
local macro_rules | `(tactic| walk_at "name") => `(tactic| first
  | ((with_reducible show DE _ _ (Expr.Name (Str.ofString "length") _) _ _ _); refine de_name (i := 0) rfl (by walk_at "vis") rfl ?_ (by decide) (by decide)))
local macro_rules | `(tactic| walk_at "set") => `(tactic| first
  | ((with_reducible show DS _ _ (Stmt.Assign [Expr.Name (Str.ofString "length") _] _ _) _ _ _); refine ds_set (i := 0) ?_ (by assumption) rfl (by walk_at "loc") rfl (by walk_at "loc")))
local macro_rules | `(tactic| walk_at "gname") => `(tactic| first
  | ((with_reducible show DG _ _ (Expr.Name (Str.ofString "length") _) _ _ _ _); refine dg_name (i := 0) (by assumption) rfl (by walk_at "loc") (by walk_at "loc") ?_))

local macro_rules | `(tactic| walk_at "bname") => `(tactic| ((with_reducible show DE _ _ (Expr.Name (Str.ofString "LONGEST_ROW") _) _ _ _); refine de_glob (v := .int 200) rfl (by assumption) ⟨_, rfl⟩ (fun _ => .int _) ?_ (by decide)))
theorem ok_CL {f : Addr} {fd : FuncData} (FF : Fun K "_check_length" "_check_length" sCL f fd) {t1 : Tok} (k1 : mg "LONGEST_ROW" = some (.int 200 t1)) (c1 : Cal P w K mg base 1 "is_integer" ["value"] sdII) : FnG P w K mg base CX0 2 f fd ["length"] (spOf K 1 sdCL) := by
  have nd := scCL.nd
  refine fn_ok FF scCL ?_
  intro cdv A outer s H E F ss cs Q hr hgu hsd hl hθ
  obtain ⟨L, rfl, h0, h2, rfl, k⟩ := hsd
  walk_at "go"
  refine spd0' rfl rfl ⟨_, _, rfl, rfl, rfl, got_d ?_⟩
  refine ⟨_, rfl, fun h => absurd h (by simp [isI]), fun _ => ?_⟩
  walk_at "go"
  refine ⟨fun _ => ?_, fun h => absurd (of_decide_eq_false h) (by omega)⟩
  walk_at "go"
  rw [show decide (L ≤ 200) = true from decide_eq_true h2]
  refine ⟨fun h => absurd h (by decide), fun _ => ?_⟩
  walk_at "go"
  exact rets_d rfl k

end
abbrev sCo : Stmt := top 18
theorem scCo : FnScope ["machine", "length", "ends", "counts", "state", "_", "shorter", "longer", "arrow"] ["machine", "length"] (defScope sCo) := ⟨rfl, rfl, rfl, by decide +kernel, rfl, by decide +kernel, by decide +kernel⟩
section
local macro_rules | `(tactic| walk_at "name") => `(tactic| first
  | ((with_reducible show DE _ _ (Expr.Name (Str.ofString "machine") _) _ _ _); refine de_name (i := 0) rfl (by walk_at "vis") rfl ?_ (by decide) (by decide))
  | ((with_reducible show DE _ _ (Expr.Name (Str.ofString "length") _) _ _ _); refine de_name (i := 1) rfl (by walk_at "vis") rfl ?_ (by decide) (by decide))
  | ((with_reducible show DE _ _ (Expr.Name (Str.ofString "ends") _) _ _ _); refine de_name (i := 2) rfl (by walk_at "vis") rfl ?_ (by decide) (by decide))
  | ((with_reducible show DE _ _ (Expr.Name (Str.ofString "counts") _) _ _ _); refine de_name (i := 3) rfl (by walk_at "vis") rfl ?_ (by decide) (by decide))
  | ((with_reducible show DE _ _ (Expr.Name (Str.ofString "state") _) _ _ _); refine de_name (i := 4) rfl (by walk_at "vis") rfl ?_ (by decide) (by decide))
  | ((with_reducible show DE _ _ (Expr.Name (Str.ofString "_") _) _ _ _); refine de_name (i := 5) rfl (by walk_at "vis") rfl ?_ (by decide) (by decide))
  | ((with_reducible show DE _ _ (Expr.Name (Str.ofString "shorter") _) _ _ _); refine de_name (i := 6) rfl (by walk_at "vis") rfl ?_ (by decide) (by decide))
  | ((with_reducible show DE _ _ (Expr.Name (Str.ofString "longer") _) _ _ _); refine de_name (i := 7) rfl (by walk_at "vis") rfl ?_ (by decide) (by decide))
  | ((with_reducible show DE _ _ (Expr.Name (Str.ofString "arrow") _) _ _ _); refine de_name (i := 8) rfl (by walk_at "vis") rfl ?_ (by decide) (by decide)))
local macro_rules | `(tactic| walk_at "set") => `(tactic| first
  | ((with_reducible show DS _ _ (Stmt.Assign [Expr.Name (Str.ofString "machine") _] _ _) _ _ _); refine ds_set (i := 0) ?_ (by assumption) rfl (by walk_at "loc") rfl (by walk_at "loc"))
  | ((with_reducible show DS _ _ (Stmt.Assign [Expr.Name (Str.ofString "length") _] _ _) _ _ _); refine ds_set (i := 1) ?_ (by assumption) rfl (by walk_at "loc") rfl (by walk_at "loc"))
  | ((with_reducible show DS _ _ (Stmt.Assign [Expr.Name (Str.ofString "ends") _] _ _) _ _ _); refine ds_set (i := 2) ?_ (by assumption) rfl (by walk_at "loc") rfl (by walk_at "loc"))
  | ((with_reducible show DS _ _ (Stmt.Assign [Expr.Name (Str.ofString "counts") _] _ _) _ _ _); refine ds_set (i := 3) ?_ (by assumption) rfl (by walk_at "loc") rfl (by walk_at "loc"))
  | ((with_reducible show DS _ _ (Stmt.Assign [Expr.Name (Str.ofString "state") _] _ _) _ _ _); refine ds_set (i := 4) ?_ (by assumption) rfl (by walk_at "loc") rfl (by walk_at "loc"))
  | ((with_reducible show DS _ _ (Stmt.Assign [Expr.Name (Str.ofString "_") _] _ _) _ _ _); refine ds_set (i := 5) ?_ (by assumption) rfl (by walk_at "loc") rfl (by walk_at "loc"))
  | ((with_reducible show DS _ _ (Stmt.Assign [Expr.Name (Str.ofString "shorter") _] _ _) _ _ _); refine ds_set (i := 6) ?_ (by assumption) rfl (by walk_at "loc") rfl (by walk_at "loc"))
  | ((with_reducible show DS _ _ (Stmt.Assign [Expr.Name (Str.ofString "longer") _] _ _) _ _ _); refine ds_set (i := 7) ?_ (by assumption) rfl (by walk_at "loc") rfl (by walk_at "loc"))
  | ((with_reducible show DS _ _ (Stmt.Assign [Expr.Name (Str.ofString "arrow") _] _ _) _ _ _); refine ds_set (i := 8) ?_ (by assumption) rfl (by walk_at "loc") rfl (by walk_at "loc")))
local macro_rules | `(tactic| walk_at "gname") => `(tactic| first
  | ((with_reducible show DG _ _ (Expr.Name (Str.ofString "machine") _) _ _ _ _); refine dg_name (i := 0) (by assumption) rfl (by walk_at "loc") (by walk_at "loc") ?_)
  | ((with_reducible show DG _ _ (Expr.Name (Str.ofString "length") _) _ _ _ _); refine dg_name (i := 1) (by assumption) rfl (by walk_at "loc") (by walk_at "loc") ?_)
  | ((with_reducible show DG _ _ (Expr.Name (Str.ofString "ends") _) _ _ _ _); refine dg_name (i := 2) (by assumption) rfl (by walk_at "loc") (by walk_at "loc") ?_)
  | ((with_reducible show DG _ _ (Expr.Name (Str.ofString "counts") _) _ _ _ _); refine dg_name (i := 3) (by assumption) rfl (by walk_at "loc") (by walk_at "loc") ?_)
  | ((with_reducible show DG _ _ (Expr.Name (Str.ofString "state") _) _ _ _ _); refine dg_name (i := 4) (by assumption) rfl (by walk_at "loc") (by walk_at "loc") ?_)
  | ((with_reducible show DG _ _ (Expr.Name (Str.ofString "_") _) _ _ _ _); refine dg_name (i := 5) (by assumption) rfl (by walk_at "loc") (by walk_at "loc") ?_)
  | ((with_reducible show DG _ _ (Expr.Name (Str.ofString "shorter") _) _ _ _ _); refine dg_name (i := 6) (by assumption) rfl (by walk_at "loc") (by walk_at "loc") ?_)
  | ((with_reducible show DG _ _ (Expr.Name (Str.ofString "longer") _) _ _ _ _); refine dg_name (i := 7) (by assumption) rfl (by walk_at "loc") (by walk_at "loc") ?_)
  | ((with_reducible show DG _ _ (Expr.Name (Str.ofString "arrow") _) _ _ _ _); refine dg_name (i := 8) (by assumption) rfl (by walk_at "loc") (by walk_at "loc") ?_))

theorem ok_Co {C : Addr} {f : Addr} {fd : FuncData} (FF : Fun K "_counts" "_counts" sCo f fd) (cl : Cls K C) (e2 : MeC P w K mg base C 1 "size" (sdG C fun n as es => .d (.int n))) (e3 : MeC P w K mg base C 1 "arrows" (sdG C fun n as es => .d (.tup (sortD (as.map arD))))) (e4 : MeC P w K mg base C 1 "ends" (sdG C fun n as es => .d (.tup (sortD (es.map D.int))))) (m1 : mg "range" = none) : FnG P w K mg base CX0 2 f fd ["machine", "length"] (spOf K 2 (sdCo C)) := by
  have nd := scCo.nd
  refine fn_ok FF scCo ?_
  intro cdv A outer s H E F ss cs Q hr hgu hsd hl hθ
  obtain ⟨m, as, es, L, rfl, ok, h0, h2, rfl, k⟩ := hsd
  have h40 := ok.ar.ln
  have hm1 := ok.n1
  have hm5 := ok.n5
  refine db_cons ?_
  walk_at "S"
  refine de_mC cl e4 hr hgu (by decide) rfl ?_
  walk_at "goE"
  refine ⟨_, rfl, rfl, spd0' rfl rfl ⟨m, as, es, rfl, h40, rfl, got_d ?_⟩⟩
  rw [sortD_int]
  refine db_cons ?_
  walk_at "S"
  refine de_lstP ?_
  walk_at "A"
  refine de_lcR (i := 4) rfl nd (blkOk_by rfl) rfl m1 rfl (fun s H C cl fp => pg_name nd rfl (by walk_at "loc") (by walk_at "loc")) (fun _ => rfl) ?_
  refine de_mC cl e2 hr hgu (by decide) rfl ?_
  walk_at "goE"
  refine ⟨_, rfl, rfl, spd0' rfl rfl ⟨m, as, es, rfl, h40, rfl, got_d ?_⟩⟩
  refine ⟨m, rfl, by omega, by omega, fun k acc M1 => acc = ((List.range k).map fun i => D.int (ind (sortI es) (i : Nat))) ∧ M1 = [], ⟨rfl, rfl⟩, ?_, ?_⟩
  · rintro k acc M1 hk ⟨ea, rfl⟩ hl1
    intro s H2 C2 cl2 fp
    refine dts_nil ⟨fun _ s H2 C2 cl2 fp => ?_, fun h => by cases h⟩
    walk_at "go"
    have ez : acc.length < sizeLine := by rw [ea, List.length_map, List.length_range, sizeLine_eq]; omega
    refine bd_inT (neg := false) (v := .int k) rfl (flatDs_ints (sortI es)) ?_
    show ∃ b, _
    rw [if_neg Bool.false_ne_true, inV_ints]
    refine ⟨_, rfl, fun hin => ?_, fun hin => ?_⟩
    · walk_at "go"
      refine ⟨_, [], rfl, rfl, rfl, ez, ?_, rfl⟩
      rw [ea, List.range_succ, List.map_append, List.map_cons, List.map_nil]
      unfold ind
      rw [if_pos (of_decide_eq_true hin)]
    · walk_at "go"
      refine ⟨_, [], rfl, rfl, rfl, ez, ?_, rfl⟩
      rw [ea, List.range_succ, List.map_append, List.map_cons, List.map_nil]
      unfold ind
      rw [if_neg (of_decide_eq_false hin)]
  · rintro acc M1 ⟨ea, rfl⟩ hl1
    subst ea
    rw [ind_vec]
    refine ⟨rfl, ?_⟩
    walk_at "A"
    refine ⟨show 1 ≤ sizeLine by decide, ?_⟩
    refine db_cons ?_
    refine ds_forR PassesOwn.never rfl rfl m1 (fun _ => rfl) rfl ?_
    walk_at "goE"
    any_goals omega
    refine ⟨fun n ρ M => ∃ (x4 x5 x6 x7 x8 : Option S) (Mj : Mem), ρ = [some (.d (.ins C (mach m as es))), some (.d (.int L)), some (.d (.tup ((sortI es).map D.int))), some (.p 0), x4, x5, x6, x7, x8] ∧ M = DL.C.lst ((rowsD m (sortA as) (sortI es) (n + 1)).map S.d) :: Mj, ⟨_, _, _, _, _, _, rfl, rfl⟩, ?_, ?_⟩
    · rintro n ρ' M' hn ⟨x4, x5, x6, x7, x8, Mj, rfl, rfl⟩
      walk_at "gname"
      refine db_cons ?_
      walk_at "S"
      walk_at "goE"
      refine id_lstP rfl (atI_back (n := n) (x := .d (.lst ((vecI m (bws (sortA as) (sortI es) n)).map D.int))) (by rw [List.length_map, rowsD_len]) (by rw [List.getElem?_map, rowsD_get (Nat.lt_succ_self n)]; rfl)) ?_
      refine db_cons ?_
      walk_at "S"
      refine de_bin ?_
      walk_at "goE"
      refine ⟨_, rfl, show 1 ≤ sizeLine by decide, ?_⟩
      refine de_mC cl e2 hr hgu (by decide) rfl ?_
      walk_at "goE"
      refine ⟨_, rfl, rfl, spd0' rfl rfl ⟨m, as, es, rfl, h40, rfl, got_d ?_⟩⟩
      refine bd_repP rfl (by omega) (by omega) (by show 1 * m.toNat ≤ sizeLine; rw [sizeLine_eq]; omega) ?_
      rw [rep_zero, vecI_zero m (bws (sortA as) (sortI es) n)]
      refine db_cons ?_
      refine ds_forT PassesOwn.never rfl (fun _ => rfl) ?_
      refine de_mC cl e3 hr hgu (by decide) rfl ?_
      walk_at "goE"
      refine ⟨_, rfl, rfl, spd0' rfl rfl ⟨m, as, es, rfl, h40, rfl, got_d ?_⟩⟩
      rw [sortD_arr]
      generalize hg : bws (sortA as) (sortI es) n = g
      refine ⟨_, rfl, fun i ρ M => ∃ (x8 : Option S), ρ = [some (.d (.ins C (mach m as es))), some (.d (.int L)), some (.d (.tup ((sortI es).map D.int))), some (.p 0), x4, some (.d (.int (n : Nat))), some (.d (.lst ((vecI m g).map D.int))), some (.p (Mj.length + 1)), x8] ∧ M = (DL.C.lst ((rowsD m (sortA as) (sortI es) (n + 1)).map S.d) :: Mj) ++ [DL.C.lst (((vecI m (back ((sortA as).take i) g)).map D.int).map S.d)], ⟨_, rfl, rfl⟩, ?_, ?_⟩
      · rintro i d ρ' M' hd ⟨x8, rfl, rfl⟩
        rw [List.getElem?_map] at hd
        obtain ⟨a, ha, rfl⟩ := Option.map_eq_some_iff.mp hd
        have am := (sortA_perm as).mem_iff.mp (List.mem_of_getElem? ha)
        obtain ⟨s0, s1⟩ := ok.ar.st a am
        obtain ⟨t0, t1⟩ := ok.ar.tg a am
        have hget : ∀ c : DL.C, ((DL.C.lst ((rowsD m (sortA as) (sortI es) (n + 1)).map S.d) :: Mj) ++ [c])[Mj.length + 1]? = some c := fun c => by
          rw [List.getElem?_append_right (by simp)]; simp
        have hset : ∀ c c2 : DL.C, ((DL.C.lst ((rowsD m (sortA as) (sortI es) (n + 1)).map S.d) :: Mj) ++ [c]).set (Mj.length + 1) c2 = (DL.C.lst ((rowsD m (sortA as) (sortI es) (n + 1)).map S.d) :: Mj) ++ [c2] := fun c c2 => by
          rw [List.set_append_right _ _ (by simp)]; simp
        walk_at "gname"
        refine db_cons ?_
        refine ds_augL ?_ (by intros; rfl)
        walk_at "goE"
        refine ⟨_, rfl, a.1, rfl, s0, _, back ((sortA as).take i) g a.1, hget _, by rw [List.getElem?_map, List.getElem?_map, vecI_get _ s0 s1]; rfl, ?_⟩
        walk_at "goE"
        refine id_lst rfl (atI_at t0 (by rw [List.length_map, vecI_len]; omega) (by rw [List.getElem?_map, vecI_get _ t0 t1]; rfl)) ?_
        refine ⟨_, rfl, _, hget _, by rw [List.length_map, List.length_map, vecI_len]; omega, ?_⟩
        refine db_nil ?_
        refine ⟨_, rfl, ?_⟩
        rw [hset]
        congr 3
        rw [List.take_succ, ha, Option.toList_some, ← vec_step _ a g s0 s1, List.map_set, List.map_set]
      · rintro ρ' M' ⟨x8, rfl, rfl⟩
        rw [List.length_map, List.take_length]
        refine db_freeze (i := 7) (n := Mj.length + 1) (ds := (vecI m (back (sortA as) g)).map D.int) rfl (by rw [List.getElem?_append_right (by simp)]; simp) (datas_map _) (by rw [hθ]; exact Nat.zero_le _) ?_
        rw [show ∀ c : DL.C, ((DL.C.lst ((rowsD m (sortA as) (sortI es) (n + 1)).map S.d) :: Mj) ++ [c]).set (Mj.length + 1) .dead = DL.C.lst ((rowsD m (sortA as) (sortI es) (n + 1)).map S.d) :: (Mj ++ [.dead]) from fun c => by rw [List.set_append_right _ _ (by simp)]; simp]
        walk_at "go"
        refine ⟨_, rfl, by rw [List.length_map, rowsD_len, sizeLine_eq]; omega, ?_⟩
        refine db_nil ?_
        refine ⟨_, _, _, _, _, Mj ++ [.dead], rfl, ?_⟩
        show _ = DL.C.lst ((rowsD m (sortA as) (sortI es) (n + 1 + 1)).map S.d) :: _
        rw [rowsD_succ m (sortA as) (sortI es) (n + 1), List.map_append]
        show _ = DL.C.lst (_ ++ [S.d (D.lst ((vecI m (back (sortA as) (bws (sortA as) (sortI es) n))).map D.int))]) :: _
        rw [hg]
        rfl
    · rintro ρ' M' ⟨x4, x5, x6, x7, x8, Mj, rfl, rfl⟩
      refine db_freeze (i := 3) (n := 0) (ds := rowsD m (sortA as) (sortI es) (L.toNat + 1)) rfl rfl (datas_map _) (by rw [hθ]; exact Nat.zero_le _) ?_
      walk_at "go"
      rw [rowsD_perm (sortA_perm as) (sortI_perm es)]
      exact rets_d rfl k

end
abbrev sRC : Stmt := top 19
theorem scRC : FnScope ["machine", "length"] ["machine", "length"] (defScope sRC) := ⟨rfl, rfl, rfl, by decide +kernel, rfl, by decide +kernel, by decide +kernel⟩
section
local macro_rules | `(tactic| walk_at "name") => `(tactic| first
  | ((with_reducible show DE _ _ (Expr.Name (Str.ofString "machine") _) _ _ _); refine de_name (i := 0) rfl (by walk_at "vis") rfl ?_ (by decide) (by decide))
  | ((with_reducible show DE _ _ (Expr.Name (Str.ofString "length") _) _ _ _); refine de_name (i := 1) rfl (by walk_at "vis") rfl ?_ (by decide) (by decide)))
local macro_rules | `(tactic| walk_at "set") => `(tactic| first
  | ((with_reducible show DS _ _ (Stmt.Assign [Expr.Name (Str.ofString "machine") _] _ _) _ _ _); refine ds_set (i := 0) ?_ (by assumption) rfl (by walk_at "loc") rfl (by walk_at "loc"))
  | ((with_reducible show DS _ _ (Stmt.Assign [Expr.Name (Str.ofString "length") _] _ _) _ _ _); refine ds_set (i := 1) ?_ (by assumption) rfl (by walk_at "loc") rfl (by walk_at "loc")))
local macro_rules | `(tactic| walk_at "gname") => `(tactic| first
  | ((with_reducible show DG _ _ (Expr.Name (Str.ofString "machine") _) _ _ _ _); refine dg_name (i := 0) (by assumption) rfl (by walk_at "loc") (by walk_at "loc") ?_)
  | ((with_reducible show DG _ _ (Expr.Name (Str.ofString "length") _) _ _ _ _); refine dg_name (i := 1) (by assumption) rfl (by walk_at "loc") (by walk_at "loc") ?_))

theorem ok_RC {C : Addr} {f : Addr} {fd : FuncData} (FF : Fun K "rows_count" "rows_count" sRC f fd) (c1 : Cal P w K mg base 2 "_check_length" ["length"] sdCL) (c2 : Cal P w K mg base 2 "_counts" ["machine", "length"] (sdCo C)) : FnG P w K mg base CX0 3 f fd ["machine", "length"] (spOf K 2 (sdRC C)) := by
  have nd := scRC.nd
  refine fn_ok FF scRC ?_
  intro cdv A outer s H E F ss cs Q hr hgu hsd hl hθ
  obtain ⟨m, as, es, L, rfl, ok, h0, h2, rfl, k⟩ := hsd
  have hm1 := ok.n1
  walk_at "go"
  refine spd0' rfl rfl ⟨L, rfl, h0, h2, rfl, got_d ?_⟩
  walk_at "go"
  refine spd0' rfl rfl ⟨m, as, es, L, rfl, ok, h0, h2, rfl, got_d ?_⟩
  walk_at "go"
  refine id_lst rfl (atI_at h0 (by rw [rowsD_len]; omega) (rowsD_get (by omega))) ?_
  walk_at "go"
  refine id_lst rfl (atI_at (Int.le_refl 0) (by rw [List.length_map, vecI_len]; omega) (by rw [List.getElem?_map, vecI_get _ (Int.le_refl 0) (by omega)]; rfl)) ?_
  exact rets_d rfl k

end
end
end T
end

section
set_option Elab.async false
set_option linter.all false
set_option maxRecDepth 100000
set_option maxHeartbeats 2000000
open PySem PySem.Spec PyProof.Rows L2 DL

local macro_rules | `(tactic| walk_at "vis") => `(tactic| first | exact Or.inl rfl | exact Or.inr (Or.inl rfl) | exact Or.inr (Or.inr rfl))
local macro_rules | `(tactic| walk_at "loc") => `(tactic| first | exact Or.inl rfl | exact Or.inr rfl)
local macro_rules | `(tactic| walk_at "side") => `(tactic| first | assumption | omega | decide)
local macro_rules | `(tactic| walk_at "callB") => `(tactic| first
  | ((with_reducible show DE _ _ (Expr.Call (Expr.Name (Str.ofString "len") _) _ _ _) _ _ _); refine de_callB (id := "len") rfl (by assumption) (by decide +kernel) (by decide) (by decide) rfl rfl ?_)
  | ((with_reducible show DE _ _ (Expr.Call (Expr.Name (Str.ofString "max") _) _ _ _) _ _ _); refine de_callB (id := "max") rfl (by assumption) (by decide +kernel) (by decide) (by decide) rfl rfl ?_)
  | ((with_reducible show DE _ _ (Expr.Call (Expr.Name (Str.ofString "min") _) _ _ _) _ _ _); refine de_callB (id := "min") rfl (by assumption) (by decide +kernel) (by decide) (by decide) rfl rfl ?_)
  | ((with_reducible show DE _ _ (Expr.Call (Expr.Name (Str.ofString "abs") _) _ _ _) _ _ _); refine de_callB (id := "abs") rfl (by assumption) (by decide +kernel) (by decide) (by decide) rfl rfl ?_)
  | ((with_reducible show DE _ _ (Expr.Call (Expr.Name (Str.ofString "repr") _) _ _ _) _ _ _); refine de_callB (id := "repr") rfl (by assumption) (by decide +kernel) (by decide) (by decide) rfl rfl ?_)
  | ((with_reducible show DE _ _ (Expr.Call (Expr.Name (Str.ofString "isinstance") _) _ _ _) _ _ _); refine de_callB (id := "isinstance") rfl (by assumption) (by decide +kernel) (by decide) (by decide) rfl rfl ?_)
  | ((with_reducible show DE _ _ (Expr.Call (Expr.Name (Str.ofString "sorted") _) _ _ _) _ _ _); refine de_callB (id := "sorted") rfl (by assumption) (by decide +kernel) (by decide) (by decide) rfl rfl ?_)
  | ((with_reducible show DE _ _ (Expr.Call (Expr.Name (Str.ofString "all") _) _ _ _) _ _ _); refine de_callB (id := "all") rfl (by assumption) (by decide +kernel) (by decide) (by decide) rfl rfl ?_)
  | ((with_reducible show DE _ _ (Expr.Call (Expr.Name (Str.ofString "any") _) _ _ _) _ _ _); refine de_callB (id := "any") rfl (by assumption) (by decide +kernel) (by decide) (by decide) rfl rfl ?_)
  | ((with_reducible show DE _ _ (Expr.Call (Expr.Name (Str.ofString "sum") _) _ _ _) _ _ _); refine de_callB (id := "sum") rfl (by assumption) (by decide +kernel) (by decide) (by decide) rfl rfl ?_)
  | ((with_reducible show DE _ _ (Expr.Call (Expr.Name (Str.ofString "int") _) _ _ _) _ _ _); refine de_callTy (T := "int") rfl (by assumption) (by decide +kernel) (by decide) (by decide) rfl rfl ?_)
  | ((with_reducible show DE _ _ (Expr.Call (Expr.Name (Str.ofString "tuple") _) _ _ _) _ _ _); refine de_callTy (T := "tuple") rfl (by assumption) (by decide +kernel) (by decide) (by decide) rfl rfl ?_)
  | ((with_reducible show DE _ _ (Expr.Call (Expr.Name (Str.ofString "list") _) _ _ _) _ _ _); refine de_callTy (T := "list") rfl (by assumption) (by decide +kernel) (by decide) (by decide) rfl rfl ?_)
  | ((with_reducible show DE _ _ (Expr.Call (Expr.Name (Str.ofString "set") _) _ _ _) _ _ _); refine de_callTy (T := "set") rfl (by assumption) (by decide +kernel) (by decide) (by decide) rfl rfl ?_)
  | ((with_reducible show DE _ _ (Expr.Call (Expr.Name (Str.ofString "str") _) _ _ _) _ _ _); refine de_callTy (T := "str") rfl (by assumption) (by decide +kernel) (by decide) (by decide) rfl rfl ?_))
local macro_rules | `(tactic| walk_at "own") => `(tactic| refine de_own (by assumption) (by assumption) (by assumption) (by decide) rfl (by decide) rfl rfl ?_)
local macro_rules | `(tactic| walk_at "bname") => `(tactic| first
  | ((with_reducible show DE _ _ (Expr.Name (Str.ofString "LETTERS") _) _ _ _); refine de_glob (v := .str abc) rfl (by assumption) ⟨_, rfl⟩ (fun _ => .str _) ?_ (by decide))
  | ((with_reducible show DE _ _ (Expr.Name (Str.ofString "LONGEST_WORD") _) _ _ _); refine de_glob (v := .int 8) rfl (by assumption) ⟨_, rfl⟩ (fun _ => .int _) ?_ (by decide))
  | ((with_reducible show DE _ _ (Expr.Name (Str.ofString "MOST_STATES") _) _ _ _); refine de_glob (v := .int 5) rfl (by assumption) ⟨_, rfl⟩ (fun _ => .int _) ?_ (by decide))
  | ((with_reducible show DE _ _ (Expr.Name (Str.ofString "MOST_ARROWS") _) _ _ _); refine de_glob (v := .int 40) rfl (by assumption) ⟨_, rfl⟩ (fun _ => .int _) ?_ (by decide))
  | ((with_reducible show DE _ _ (Expr.Name (Str.ofString "int") _) _ _ _); refine de_bltn (v := .ty "int") rfl (by assumption) (by decide +kernel) rfl ?_ (by decide) (by decide))
  | ((with_reducible show DE _ _ (Expr.Name (Str.ofString "bool") _) _ _ _); refine de_bltn (v := .ty "bool") rfl (by assumption) (by decide +kernel) rfl ?_ (by decide) (by decide))
  | ((with_reducible show DE _ _ (Expr.Name (Str.ofString "str") _) _ _ _); refine de_bltn (v := .ty "str") rfl (by assumption) (by decide +kernel) rfl ?_ (by decide) (by decide))
  | ((with_reducible show DE _ _ (Expr.Name (Str.ofString "tuple") _) _ _ _); refine de_bltn (v := .ty "tuple") rfl (by assumption) (by decide +kernel) rfl ?_ (by decide) (by decide))
  | ((with_reducible show DE _ _ (Expr.Name (Str.ofString "list") _) _ _ _); refine de_bltn (v := .ty "list") rfl (by assumption) (by decide +kernel) rfl ?_ (by decide) (by decide)))
local macro_rules | `(tactic| walk_at "E") => `(tactic| ((with_reducible show DE _ _ _ _ _ _); first
  | ((with_reducible show DE _ _ (Expr.Name _ _) _ _ _); first | walk_at "name" | walk_at "bname")
  | refine de_int ?_ | refine de_str ?_ | refine de_bl ?_ | refine de_non ?_
  | ((with_reducible show DE _ _ (Expr.Subscript _ (Expr.Tuple _ _ _) _) _ _ _); refine de_dget (by assumption) ?_ (fun _ _ => rfl))
  | ((with_reducible show DE _ _ (Expr.Subscript _ (Expr.Slice _ _ _ _) _) _ _ _); first | refine de_revS ?_ | refine de_slice ?_)
  | refine de_ix ?_ (fun _ _ => rfl)
  | refine de_bin ?_ | refine de_cmp ?_ (by first | exact nomark _ | rfl) | refine de_chain ?_ rfl
  | refine de_one ?_ | refine de_neg ?_ | refine de_and ?_ | refine de_or ?_ | refine de_not ?_ | refine de_if ?_
  | refine de_tup ?_ | refine de_lstP (es := []) ?_ | refine de_lst ?_
  | ((with_reducible show DE _ _ (Expr.Call (Expr.Name _ _) _ _ _) _ _ _); first | walk_at "callB" | walk_at "own")
  | ((with_reducible show DE _ _ (Expr.Call (Expr.Attribute _ (Str.ofString "append") _) _ _ _) _ _ _); refine de_append ?_ rfl rfl rfl rfl rfl)
  | ((with_reducible show DE _ _ (Expr.Call (Expr.Attribute _ (Str.ofString "insert") _) _ _ _) _ _ _); refine de_insert ?_ rfl rfl rfl rfl rfl rfl)))
local macro_rules | `(tactic| walk_at "T") => `(tactic| ((with_reducible show DT _ _ _ _ _ _); first
  | ((with_reducible show DT _ _ (Expr.Compare (Expr.Tuple _ _ _) [CmpOp.In] _ _) _ _ _); refine dt_din (by assumption) ?_ rfl)
  | refine dt_cmp ?_ (by first | exact nomark _ | rfl) | refine dt_chain ?_ rfl | refine dt_not ?_ | refine dt_w (dw_and ?_) | refine dt_w (dw_or ?_) | refine dt_val ?_ (fun _ => rfl)))
local macro_rules | `(tactic| walk_at "W") => `(tactic| ((with_reducible show DW _ _ _ _ _ _); first
  | refine dw_and ?_ | refine dw_or ?_ | refine dw_and1 ?_ | refine dw_or1 ?_))
local macro_rules | `(tactic| walk_at "A") => `(tactic| ((with_reducible show DA _ _ _ _ _ _); first | refine da_nil ?_ | refine da_cons ?_ rfl))
local macro_rules | `(tactic| walk_at "O") => `(tactic| ((with_reducible show BD _ _ _ _ _ _ _ _); first
  | ((with_reducible show BD _ _ (binaryOp Operator.Add) (S.d (D.int _)) (S.d (D.int _)) _ _ _); refine bd_add ?_)
  | ((with_reducible show BD _ _ (binaryOp Operator.Add) (S.d (D.str _)) (S.d (D.str _)) _ _ _); refine bd_addS ?_ ?_)
  | ((with_reducible show BD _ _ (binaryOp Operator.Sub) (S.d (D.int _)) (S.d (D.int _)) _ _ _); refine bd_sub ?_)
  | ((with_reducible show BD _ _ (binaryOp Operator.Mod) (S.d (D.int _)) (S.d (D.int _)) _ _ _); refine bd_mod (by walk_at "side") ?_)
  | ((with_reducible show BD _ _ (binaryOp Operator.Mult) (S.d (D.int _)) (S.d (D.int _)) _ _ _); refine bd_mul ?_ ?_)
  | ((with_reducible show BD _ _ (binaryOp Operator.FloorDiv) (S.d (D.int _)) (S.d (D.int _)) _ _ _); refine bd_fdivW ?_ ?_)
  | ((with_reducible show BD _ _ (binaryOp Operator.Pow) (S.d (D.int _)) (S.d (D.int _)) _ _ _); refine bd_pow ?_ ?_)
  | ((with_reducible show BD _ _ (compareOp CmpOp.Lt) (S.d (D.int _)) (S.d (D.int _)) _ _ _); refine bd_lt ?_)
  | ((with_reducible show BD _ _ (compareOp CmpOp.LtE) (S.d (D.int _)) (S.d (D.int _)) _ _ _); refine bd_le ?_)
  | ((with_reducible show BD _ _ (compareOp CmpOp.Gt) (S.d (D.int _)) (S.d (D.int _)) _ _ _); refine bd_gt ?_)
  | ((with_reducible show BD _ _ (compareOp CmpOp.GtE) (S.d (D.int _)) (S.d (D.int _)) _ _ _); refine bd_ge ?_)
  | ((with_reducible show BD _ _ (compareOp CmpOp.Eq) (S.d (D.int _)) (S.d (D.int _)) _ _ _); refine bd_eqI ?_)
  | ((with_reducible show BD _ _ (compareOp CmpOp.NotEq) (S.d (D.int _)) (S.d (D.int _)) _ _ _); refine bd_neI ?_)
  | ((with_reducible show BD _ _ (compareOp CmpOp.Eq) (S.d (D.str _)) (S.d (D.str _)) _ _ _); refine bd_eqS ?_)
  | ((with_reducible show BD _ _ (compareOp CmpOp.NotEq) (S.d (D.str _)) (S.d (D.str _)) _ _ _); refine bd_neS ?_)
  | ((with_reducible show BD _ _ (compareOp CmpOp.Is) _ (S.d D.non) _ _ _); refine bd_isN (by first | (intro y h; cases h) | assumption) ?_)
  | ((with_reducible show BD _ _ (compareOp CmpOp.IsNot) _ (S.d D.non) _ _ _); refine bd_notN (by first | (intro y h; cases h) | assumption) ?_)))
local macro_rules | `(tactic| walk_at "C") => `(tactic| ((with_reducible show CD _ _ _ _ _ _ _); first
  | ((with_reducible show CD _ _ (Value.type "int") _ _ _ _); refine cd_int ?_)
  | ((with_reducible show CD _ _ (Value.builtin "abs") _ _ _ _); refine cd_abs ?_)
  | ((with_reducible show CD _ _ (Value.builtin "max") _ _ _ _); refine cd_max2 rfl ?_)
  | ((with_reducible show CD _ _ (Value.builtin "min") _ _ _ _); refine cd_min2 rfl ?_)
  | ((with_reducible show CD _ _ (Value.builtin "isinstance") _ _ _ _); refine cd_isiK (by first | rfl | assumption) (by first | decide | exact tyD_six (by assumption)) (by decide) (by decide) ?_)
  | ((with_reducible show CD _ _ (Value.builtin "len") _ _ _ _); first | refine cd_lenT ?_ | refine cd_lenS ?_ ?_ | refine cd_lenP rfl ?_ | refine cd_lenL rfl ?_)
  | ((with_reducible show CD _ _ (Value.type "tuple") _ _ _ _); first | refine cd_tupleT ?_ | refine cd_tuple rfl ?_)))
local macro_rules | `(tactic| walk_at "I") => `(tactic| ((with_reducible show ID _ _ _ _ _ _ _); first
  | refine id_lstP rfl rfl ?_ | refine id_tup rfl ?_ | refine id_lst rfl rfl ?_ | refine id_str ?_ ?_ ?_))
local macro_rules | `(tactic| walk_at "S") => `(tactic| ((with_reducible show DS _ _ _ _ _ _); first
  | ((with_reducible show DS _ _ (Stmt.Assign [Expr.Name _ _] _ _) _ _ _); walk_at "set")
  | refine ds_ret ?_ | refine ds_retN ?_ | refine ds_if ?_ | refine ds_expr ?_ rfl | refine ds_pass ?_ | refine ds_break ?_ | refine ds_continue ?_
  | ((with_reducible show DS _ _ (Stmt.Assign [Expr.Attribute _ _ _] _ _) _ _ _); refine ds_fld ?_ rfl)
  | ((with_reducible show DS _ _ (Stmt.Assign [Expr.Subscript _ (Expr.Tuple _ _ _) _] _ _) _ _ _); refine ds_dput (by assumption) ?_ rfl)
  | ((with_reducible show DS _ _ (Stmt.Assign [Expr.Subscript _ _ _] _ _) _ _ _); refine ds_setL ?_ (fun _ => rfl) rfl rfl rfl) | refine ds_asg ?_ rfl rfl rfl))
local macro_rules | `(tactic| walk_at "B") => `(tactic| ((with_reducible show DB _ _ _ _ _ _); first | refine db_cons ?_ | refine db_nil ?_))
local macro_rules | `(tactic| walk_at "G") => `(tactic| first
  | ((with_reducible show DG _ _ _ _ _ _ _); first | walk_at "gname" | refine dg_tup rfl rfl rfl rfl ?_)
  | ((with_reducible show DGs _ _ _ _ _ _ _); first | refine dgs_nil ?_ | refine dgs_cons ?_ rfl))
local macro_rules | `(tactic| walk_at "X") => `(tactic| first
  | ((with_reducible show ∃ n ss j i, S.p _ = S.p n ∧ _ ∧ _ ∧ _ ∧ _); refine ⟨_, _, _, _, rfl, rfl, rfl, rfl, ?_⟩)
  | ((with_reducible show ∃ n ss, S.p _ = S.p n ∧ _ ∧ _); refine ⟨_, _, rfl, rfl, ?_⟩)
  | ((with_reducible show ∃ n, S.d (D.int _) = S.d (D.int n) ∧ _ ∧ _ ∧ _); refine ⟨_, rfl, ?_, ?_, ?_⟩)
  | ((with_reducible show ∃ b, S.d (D.bl _) = S.d (D.bl b) ∧ _); refine ⟨_, rfl, ?_⟩)
  | ((with_reducible show ∃ b, S.d (D.int _) = S.d (D.int b) ∧ _); refine ⟨_, rfl, ?_⟩))
local macro_rules | `(tactic| walk_at "L") => `(tactic| ((with_reducible show LD _ _ _ _ _ _ _ _); first
  | ((with_reducible show LD _ _ (S.d (D.tup _)) _ _ _ _ _); refine ld_tup ?_)))
local macro_rules | `(tactic| walk_at "D") => `(tactic| ((with_reducible show DO _ _ _ _ _ _); first | refine do_none ?_ | refine do_some ?_))
local macro_rules | `(tactic| walk_at "step") => `(tactic| first | walk_at "E" | walk_at "O" | walk_at "I" | walk_at "A" | walk_at "C" | walk_at "B" | walk_at "S" | walk_at "T" | walk_at "W" | walk_at "G" | walk_at "D" | walk_at "L" | walk_at "X")
local macro_rules | `(tactic| walk_at "go") => `(tactic| repeat walk_at "step")
local macro_rules | `(tactic| walk_at "goE") => `(tactic| repeat (first | walk_at "E" | walk_at "O" | walk_at "I" | walk_at "A" | walk_at "C" | walk_at "T" | walk_at "W" | walk_at "G" | walk_at "D" | walk_at "L" | walk_at "X"))

namespace T
set_option pp.deepTerms false
set_option pp.deepTerms.threshold 3
section
variable {P : Program} {w : World} {K : PySem.W.Frag} {mg : Str → Option Value} {base : Heap}


/-- the arrow at a place, and what is left of the place -/
def takeA (g : Int → Int) : List Arr → Int → Option (Arr × Int)
  | [], _ => none
  | a :: as, p => if g a.2.2 ≤ p then takeA g as (p - g a.2.2) else some (a, p)
def sumA (g : Int → Int) (bs : List Arr) : Int := (bs.map fun a => g a.2.2).sum
theorem takeA_ok (g : Int → Int) : ∀ (bs : List Arr) (p : Int), 0 ≤ p → p < sumA g bs → ∃ a q, takeA g bs p = some (a, q) ∧ a ∈ bs ∧ 0 ≤ q ∧ q < g a.2.2
  | [], p, h0, h1 => by unfold sumA at h1; simp at h1; omega
  | a :: as, p, h0, h1 => by
    unfold takeA
    by_cases h : g a.2.2 ≤ p
    · rw [if_pos h]
      have e : sumA g (a :: as) = g a.2.2 + sumA g as := by unfold sumA; rw [List.map_cons, List.sum_cons]
      obtain ⟨b, q, h2, h3, h4⟩ := takeA_ok g as (p - g a.2.2) (by omega) (by omega)
      exact ⟨b, q, h2, List.mem_cons_of_mem _ h3, h4⟩
    · rw [if_neg h]
      exact ⟨a, p, rfl, List.mem_cons_self, h0, by omega⟩
def sdTA : Sd := fun ss cs Q => ∃ (m : Int) (bs : List Arr) (g : Int → Int) (p : Int), ss = [.d (.lst (bs.map arD)), .d (.lst ((vecI m g).map D.int)), .d (.int p)] ∧ bs.length ≤ 40 ∧ (∀ a ∈ bs, 0 ≤ a.2.2 ∧ a.2.2 < m) ∧ 0 ≤ p ∧ p < sumA g bs ∧ cs = [] ∧ ∀ a q, takeA g bs p = some (a, q) → Q (.d (.tup [arD a, .int q])) []
def atM (n : Nat) : Rho → Mem → Nat := fun ρ _ => match ρ[3]? with
  | some (some (DL.S.d (DL.D.int j))) => n - j.toNat
  | _ => 0

abbrev sTA : Stmt := top 20
theorem scTA : FnScope ["arrows", "counts", "place", "at"] ["arrows", "counts", "place"] (defScope sTA) := ⟨rfl, rfl, rfl, by decide +kernel, rfl, by decide +kernel, by decide +kernel⟩
section
local macro_rules | `(tactic| walk_at "name") => `(tactic| first
  | ((with_reducible show DE _ _ (Expr.Name (Str.ofString "arrows") _) _ _ _); refine de_name (i := 0) rfl (by walk_at "vis") rfl ?_ (by decide) (by decide))
  | ((with_reducible show DE _ _ (Expr.Name (Str.ofString "counts") _) _ _ _); refine de_name (i := 1) rfl (by walk_at "vis") rfl ?_ (by decide) (by decide))
  | ((with_reducible show DE _ _ (Expr.Name (Str.ofString "place") _) _ _ _); refine de_name (i := 2) rfl (by walk_at "vis") rfl ?_ (by decide) (by decide))
  | ((with_reducible show DE _ _ (Expr.Name (Str.ofString "at") _) _ _ _); refine de_name (i := 3) rfl (by walk_at "vis") rfl ?_ (by decide) (by decide)))
local macro_rules | `(tactic| walk_at "set") => `(tactic| first
  | ((with_reducible show DS _ _ (Stmt.Assign [Expr.Name (Str.ofString "arrows") _] _ _) _ _ _); refine ds_set (i := 0) ?_ (by assumption) rfl (by walk_at "loc") rfl (by walk_at "loc"))
  | ((with_reducible show DS _ _ (Stmt.Assign [Expr.Name (Str.ofString "counts") _] _ _) _ _ _); refine ds_set (i := 1) ?_ (by assumption) rfl (by walk_at "loc") rfl (by walk_at "loc"))
  | ((with_reducible show DS _ _ (Stmt.Assign [Expr.Name (Str.ofString "place") _] _ _) _ _ _); refine ds_set (i := 2) ?_ (by assumption) rfl (by walk_at "loc") rfl (by walk_at "loc"))
  | ((with_reducible show DS _ _ (Stmt.Assign [Expr.Name (Str.ofString "at") _] _ _) _ _ _); refine ds_set (i := 3) ?_ (by assumption) rfl (by walk_at "loc") rfl (by walk_at "loc")))
local macro_rules | `(tactic| walk_at "gname") => `(tactic| first
  | ((with_reducible show DG _ _ (Expr.Name (Str.ofString "arrows") _) _ _ _ _); refine dg_name (i := 0) (by assumption) rfl (by walk_at "loc") (by walk_at "loc") ?_)
  | ((with_reducible show DG _ _ (Expr.Name (Str.ofString "counts") _) _ _ _ _); refine dg_name (i := 1) (by assumption) rfl (by walk_at "loc") (by walk_at "loc") ?_)
  | ((with_reducible show DG _ _ (Expr.Name (Str.ofString "place") _) _ _ _ _); refine dg_name (i := 2) (by assumption) rfl (by walk_at "loc") (by walk_at "loc") ?_)
  | ((with_reducible show DG _ _ (Expr.Name (Str.ofString "at") _) _ _ _ _); refine dg_name (i := 3) (by assumption) rfl (by walk_at "loc") (by walk_at "loc") ?_))

theorem ok_TA {f : Addr} {fd : FuncData} (FF : Fun K "_take_arrow" "_take_arrow" sTA f fd) : FnG P w K mg base CX0 1 f fd ["arrows", "counts", "place"] (spOf K 3 sdTA) := by
  have nd := scTA.nd
  refine fn_ok FF scTA ?_
  intro cdv A outer s H E F ss cs Q hr hgu hsd hl hθ
  obtain ⟨m, bs, g, p0, rfl, h40, ht, p00, p01, rfl, k⟩ := hsd
  walk_at "go"
  refine ds_while PassesOwn.never (fun ρ M => M = [] ∧ ∃ (j : Nat) (p : Int), ρ = [some (.d (.lst (bs.map arD))), some (.d (.lst ((vecI m g).map D.int))), some (.d (.int p)), some (.d (.int j))] ∧ takeA g (bs.drop j) p = takeA g bs p0 ∧ 0 ≤ p ∧ p < sumA g (bs.drop j)) (atM bs.length) ⟨rfl, 0, p0, rfl, rfl, p00, p01⟩ ?_
  rintro ρ' M' ⟨rfl, j, p, rfl, e1, h0, h1⟩
  have hj : j < bs.length := by
    rcases Nat.lt_or_ge j bs.length with h | h
    · exact h
    · rw [List.drop_eq_nil_of_le h] at h1
      have : p < 0 := h1
      omega
  have hb := List.getElem?_eq_getElem hj
  generalize bs[j] = b at hb
  have hd : bs.drop j = b :: bs.drop (j + 1) := by
    rw [List.drop_eq_getElem_cons hj]
    congr 1
    exact Option.some.inj ((List.getElem?_eq_getElem hj).symm.trans hb)
  obtain ⟨t0, t1⟩ := ht b (List.mem_of_getElem? hb)
  rw [hd] at e1 h1
  have hat : atI (bs.map arD) ((j : Nat) : Int) = some (arD b) := atI_at (Int.natCast_nonneg j) (by rw [List.length_map]; omega) (by rw [List.getElem?_map, Int.toNat_natCast, hb]; rfl)
  have hco : atI ((vecI m g).map D.int) b.2.2 = some (D.int (g b.2.2)) := atI_at t0 (by rw [List.length_map, vecI_len]; omega) (by rw [List.getElem?_map, vecI_get _ t0 t1]; rfl)
  walk_at "goE"
  refine id_lst rfl hat ?_
  walk_at "goE"
  refine id_lst rfl hco ?_
  walk_at "goE"
  refine ⟨fun hk => ?_, fun hk => ?_⟩
  · have hk : g b.2.2 ≤ p := of_decide_eq_true hk
    have e2 : takeA g (b :: bs.drop (j + 1)) p = takeA g (bs.drop (j + 1)) (p - g b.2.2) := by
      show (if g b.2.2 ≤ p then _ else _) = _
      rw [if_pos hk]
    have e3 : sumA g (b :: bs.drop (j + 1)) = g b.2.2 + sumA g (bs.drop (j + 1)) := by unfold sumA; rw [List.map_cons, List.sum_cons]
    refine db_cons ?_
    refine ds_augSub (i := 2) nd rfl (by walk_at "loc") (by walk_at "loc") ⟨p, rfl, ?_⟩
    walk_at "goE"
    refine id_lst rfl hat ?_
    walk_at "goE"
    refine id_lst rfl hco ?_
    refine ⟨_, rfl, ?_⟩
    refine db_cons ?_
    refine ds_augAdd (i := 3) nd rfl (by walk_at "loc") (by walk_at "loc") ⟨j, rfl, ?_⟩
    walk_at "goE"
    refine db_nil ?_
    refine ⟨⟨rfl, j + 1, p - g b.2.2, rfl, e2.symm.trans e1, by omega, by omega⟩, ?_⟩
    show bs.length - ((j : Int) + 1).toNat < bs.length - ((j : Nat) : Int).toNat
    omega
  · have hk : ¬ g b.2.2 ≤ p := of_decide_eq_false hk
    have e2 : takeA g (b :: bs.drop (j + 1)) p = some (b, p) := by
      show (if g b.2.2 ≤ p then _ else _) = _
      rw [if_neg hk]
    walk_at "go"
    refine id_lst rfl hat ?_
    walk_at "go"
    refine ⟨_, rfl, show 2 ≤ sizeLine by decide, ?_⟩
    exact rets_d rfl (k b p (e1.symm.trans e2))

end
end
end T
end

section
set_option Elab.async false
set_option linter.all false
set_option maxRecDepth 100000
set_option maxHeartbeats 2000000
open PySem PySem.Spec PyProof.Rows L2 DL

local macro_rules | `(tactic| walk_at "vis") => `(tactic| first | exact Or.inl rfl | exact Or.inr (Or.inl rfl) | exact Or.inr (Or.inr rfl))
local macro_rules | `(tactic| walk_at "loc") => `(tactic| first | exact Or.inl rfl | exact Or.inr rfl)
local macro_rules | `(tactic| walk_at "side") => `(tactic| first | assumption | omega | decide)
local macro_rules | `(tactic| walk_at "callB") => `(tactic| first
  | ((with_reducible show DE _ _ (Expr.Call (Expr.Name (Str.ofString "len") _) _ _ _) _ _ _); refine de_callB (id := "len") rfl (by assumption) (by decide +kernel) (by decide) (by decide) rfl rfl ?_)
  | ((with_reducible show DE _ _ (Expr.Call (Expr.Name (Str.ofString "max") _) _ _ _) _ _ _); refine de_callB (id := "max") rfl (by assumption) (by decide +kernel) (by decide) (by decide) rfl rfl ?_)
  | ((with_reducible show DE _ _ (Expr.Call (Expr.Name (Str.ofString "min") _) _ _ _) _ _ _); refine de_callB (id := "min") rfl (by assumption) (by decide +kernel) (by decide) (by decide) rfl rfl ?_)
  | ((with_reducible show DE _ _ (Expr.Call (Expr.Name (Str.ofString "abs") _) _ _ _) _ _ _); refine de_callB (id := "abs") rfl (by assumption) (by decide +kernel) (by decide) (by decide) rfl rfl ?_)
  | ((with_reducible show DE _ _ (Expr.Call (Expr.Name (Str.ofString "repr") _) _ _ _) _ _ _); refine de_callB (id := "repr") rfl (by assumption) (by decide +kernel) (by decide) (by decide) rfl rfl ?_)
  | ((with_reducible show DE _ _ (Expr.Call (Expr.Name (Str.ofString "isinstance") _) _ _ _) _ _ _); refine de_callB (id := "isinstance") rfl (by assumption) (by decide +kernel) (by decide) (by decide) rfl rfl ?_)
  | ((with_reducible show DE _ _ (Expr.Call (Expr.Name (Str.ofString "sorted") _) _ _ _) _ _ _); refine de_callB (id := "sorted") rfl (by assumption) (by decide +kernel) (by decide) (by decide) rfl rfl ?_)
  | ((with_reducible show DE _ _ (Expr.Call (Expr.Name (Str.ofString "all") _) _ _ _) _ _ _); refine de_callB (id := "all") rfl (by assumption) (by decide +kernel) (by decide) (by decide) rfl rfl ?_)
  | ((with_reducible show DE _ _ (Expr.Call (Expr.Name (Str.ofString "any") _) _ _ _) _ _ _); refine de_callB (id := "any") rfl (by assumption) (by decide +kernel) (by decide) (by decide) rfl rfl ?_)
  | ((with_reducible show DE _ _ (Expr.Call (Expr.Name (Str.ofString "sum") _) _ _ _) _ _ _); refine de_callB (id := "sum") rfl (by assumption) (by decide +kernel) (by decide) (by decide) rfl rfl ?_)
  | ((with_reducible show DE _ _ (Expr.Call (Expr.Name (Str.ofString "int") _) _ _ _) _ _ _); refine de_callTy (T := "int") rfl (by assumption) (by decide +kernel) (by decide) (by decide) rfl rfl ?_)
  | ((with_reducible show DE _ _ (Expr.Call (Expr.Name (Str.ofString "tuple") _) _ _ _) _ _ _); refine de_callTy (T := "tuple") rfl (by assumption) (by decide +kernel) (by decide) (by decide) rfl rfl ?_)
  | ((with_reducible show DE _ _ (Expr.Call (Expr.Name (Str.ofString "list") _) _ _ _) _ _ _); refine de_callTy (T := "list") rfl (by assumption) (by decide +kernel) (by decide) (by decide) rfl rfl ?_)
  | ((with_reducible show DE _ _ (Expr.Call (Expr.Name (Str.ofString "set") _) _ _ _) _ _ _); refine de_callTy (T := "set") rfl (by assumption) (by decide +kernel) (by decide) (by decide) rfl rfl ?_)
  | ((with_reducible show DE _ _ (Expr.Call (Expr.Name (Str.ofString "str") _) _ _ _) _ _ _); refine de_callTy (T := "str") rfl (by assumption) (by decide +kernel) (by decide) (by decide) rfl rfl ?_))
local macro_rules | `(tactic| walk_at "own") => `(tactic| refine de_own (by assumption) (by assumption) (by assumption) (by decide) rfl (by decide) rfl rfl ?_)
local macro_rules | `(tactic| walk_at "bname") => `(tactic| first
  | ((with_reducible show DE _ _ (Expr.Name (Str.ofString "LETTERS") _) _ _ _); refine de_glob (v := .str abc) rfl (by assumption) ⟨_, rfl⟩ (fun _ => .str _) ?_ (by decide))
  | ((with_reducible show DE _ _ (Expr.Name (Str.ofString "LONGEST_WORD") _) _ _ _); refine de_glob (v := .int 8) rfl (by assumption) ⟨_, rfl⟩ (fun _ => .int _) ?_ (by decide))
  | ((with_reducible show DE _ _ (Expr.Name (Str.ofString "MOST_STATES") _) _ _ _); refine de_glob (v := .int 5) rfl (by assumption) ⟨_, rfl⟩ (fun _ => .int _) ?_ (by decide))
  | ((with_reducible show DE _ _ (Expr.Name (Str.ofString "MOST_ARROWS") _) _ _ _); refine de_glob (v := .int 40) rfl (by assumption) ⟨_, rfl⟩ (fun _ => .int _) ?_ (by decide))
  | ((with_reducible show DE _ _ (Expr.Name (Str.ofString "int") _) _ _ _); refine de_bltn (v := .ty "int") rfl (by assumption) (by decide +kernel) rfl ?_ (by decide) (by decide))
  | ((with_reducible show DE _ _ (Expr.Name (Str.ofString "bool") _) _ _ _); refine de_bltn (v := .ty "bool") rfl (by assumption) (by decide +kernel) rfl ?_ (by decide) (by decide))
  | ((with_reducible show DE _ _ (Expr.Name (Str.ofString "str") _) _ _ _); refine de_bltn (v := .ty "str") rfl (by assumption) (by decide +kernel) rfl ?_ (by decide) (by decide))
  | ((with_reducible show DE _ _ (Expr.Name (Str.ofString "tuple") _) _ _ _); refine de_bltn (v := .ty "tuple") rfl (by assumption) (by decide +kernel) rfl ?_ (by decide) (by decide))
  | ((with_reducible show DE _ _ (Expr.Name (Str.ofString "list") _) _ _ _); refine de_bltn (v := .ty "list") rfl (by assumption) (by decide +kernel) rfl ?_ (by decide) (by decide)))
local macro_rules | `(tactic| walk_at "E") => `(tactic| ((with_reducible show DE _ _ _ _ _ _); first
  | ((with_reducible show DE _ _ (Expr.Name _ _) _ _ _); first | walk_at "name" | walk_at "bname")
  | refine de_int ?_ | refine de_str ?_ | refine de_bl ?_ | refine de_non ?_
  | ((with_reducible show DE _ _ (Expr.Subscript _ (Expr.Tuple _ _ _) _) _ _ _); refine de_dget (by assumption) ?_ (fun _ _ => rfl))
  | ((with_reducible show DE _ _ (Expr.Subscript _ (Expr.Slice _ _ _ _) _) _ _ _); first | refine de_revS ?_ | refine de_slice ?_)
  | refine de_ix ?_ (fun _ _ => rfl)
  | refine de_bin ?_ | refine de_cmp ?_ (by first | exact nomark _ | rfl) | refine de_chain ?_ rfl
  | refine de_one ?_ | refine de_neg ?_ | refine de_and ?_ | refine de_or ?_ | refine de_not ?_ | refine de_if ?_
  | refine de_tup ?_ | refine de_lstP (es := []) ?_ | refine de_lst ?_
  | ((with_reducible show DE _ _ (Expr.Call (Expr.Name _ _) _ _ _) _ _ _); first | walk_at "callB" | walk_at "own")
  | ((with_reducible show DE _ _ (Expr.Call (Expr.Attribute _ (Str.ofString "append") _) _ _ _) _ _ _); refine de_append ?_ rfl rfl rfl rfl rfl)
  | ((with_reducible show DE _ _ (Expr.Call (Expr.Attribute _ (Str.ofString "insert") _) _ _ _) _ _ _); refine de_insert ?_ rfl rfl rfl rfl rfl rfl)))
local macro_rules | `(tactic| walk_at "T") => `(tactic| ((with_reducible show DT _ _ _ _ _ _); first
  | ((with_reducible show DT _ _ (Expr.Compare (Expr.Tuple _ _ _) [CmpOp.In] _ _) _ _ _); refine dt_din (by assumption) ?_ rfl)
  | refine dt_cmp ?_ (by first | exact nomark _ | rfl) | refine dt_chain ?_ rfl | refine dt_not ?_ | refine dt_w (dw_and ?_) | refine dt_w (dw_or ?_) | refine dt_val ?_ (fun _ => rfl)))
local macro_rules | `(tactic| walk_at "W") => `(tactic| ((with_reducible show DW _ _ _ _ _ _); first
  | refine dw_and ?_ | refine dw_or ?_ | refine dw_and1 ?_ | refine dw_or1 ?_))
local macro_rules | `(tactic| walk_at "A") => `(tactic| ((with_reducible show DA _ _ _ _ _ _); first | refine da_nil ?_ | refine da_cons ?_ rfl))
local macro_rules | `(tactic| walk_at "O") => `(tactic| ((with_reducible show BD _ _ _ _ _ _ _ _); first
  | ((with_reducible show BD _ _ (binaryOp Operator.Add) (S.d (D.int _)) (S.d (D.int _)) _ _ _); refine bd_add ?_)
  | ((with_reducible show BD _ _ (binaryOp Operator.Add) (S.d (D.str _)) (S.d (D.str _)) _ _ _); refine bd_addS ?_ ?_)
  | ((with_reducible show BD _ _ (binaryOp Operator.Sub) (S.d (D.int _)) (S.d (D.int _)) _ _ _); refine bd_sub ?_)
  | ((with_reducible show BD _ _ (binaryOp Operator.Mod) (S.d (D.int _)) (S.d (D.int _)) _ _ _); refine bd_mod (by walk_at "side") ?_)
  | ((with_reducible show BD _ _ (binaryOp Operator.Mult) (S.d (D.int _)) (S.d (D.int _)) _ _ _); refine bd_mul ?_ ?_)
  | ((with_reducible show BD _ _ (binaryOp Operator.FloorDiv) (S.d (D.int _)) (S.d (D.int _)) _ _ _); refine bd_fdivW ?_ ?_)
  | ((with_reducible show BD _ _ (binaryOp Operator.Pow) (S.d (D.int _)) (S.d (D.int _)) _ _ _); refine bd_pow ?_ ?_)
  | ((with_reducible show BD _ _ (compareOp CmpOp.Lt) (S.d (D.int _)) (S.d (D.int _)) _ _ _); refine bd_lt ?_)
  | ((with_reducible show BD _ _ (compareOp CmpOp.LtE) (S.d (D.int _)) (S.d (D.int _)) _ _ _); refine bd_le ?_)
  | ((with_reducible show BD _ _ (compareOp CmpOp.Gt) (S.d (D.int _)) (S.d (D.int _)) _ _ _); refine bd_gt ?_)
  | ((with_reducible show BD _ _ (compareOp CmpOp.GtE) (S.d (D.int _)) (S.d (D.int _)) _ _ _); refine bd_ge ?_)
  | ((with_reducible show BD _ _ (compareOp CmpOp.Eq) (S.d (D.int _)) (S.d (D.int _)) _ _ _); refine bd_eqI ?_)
  | ((with_reducible show BD _ _ (compareOp CmpOp.NotEq) (S.d (D.int _)) (S.d (D.int _)) _ _ _); refine bd_neI ?_)
  | ((with_reducible show BD _ _ (compareOp CmpOp.Eq) (S.d (D.str _)) (S.d (D.str _)) _ _ _); refine bd_eqS ?_)
  | ((with_reducible show BD _ _ (compareOp CmpOp.NotEq) (S.d (D.str _)) (S.d (D.str _)) _ _ _); refine bd_neS ?_)
  | ((with_reducible show BD _ _ (compareOp CmpOp.Is) _ (S.d D.non) _ _ _); refine bd_isN (by first | (intro y h; cases h) | assumption) ?_)
  | ((with_reducible show BD _ _ (compareOp CmpOp.IsNot) _ (S.d D.non) _ _ _); refine bd_notN (by first | (intro y h; cases h) | assumption) ?_)))
local macro_rules | `(tactic| walk_at "C") => `(tactic| ((with_reducible show CD _ _ _ _ _ _ _); first
  | ((with_reducible show CD _ _ (Value.type "int") _ _ _ _); refine cd_int ?_)
  | ((with_reducible show CD _ _ (Value.builtin "abs") _ _ _ _); refine cd_abs ?_)
  | ((with_reducible show CD _ _ (Value.builtin "max") _ _ _ _); refine cd_max2 rfl ?_)
  | ((with_reducible show CD _ _ (Value.builtin "min") _ _ _ _); refine cd_min2 rfl ?_)
  | ((with_reducible show CD _ _ (Value.builtin "isinstance") _ _ _ _); refine cd_isiK (by first | rfl | assumption) (by first | decide | exact tyD_six (by assumption)) (by decide) (by decide) ?_)
  | ((with_reducible show CD _ _ (Value.builtin "len") _ _ _ _); first | refine cd_lenT ?_ | refine cd_lenS ?_ ?_ | refine cd_lenP rfl ?_ | refine cd_lenL rfl ?_)
  | ((with_reducible show CD _ _ (Value.type "tuple") _ _ _ _); first | refine cd_tupleT ?_ | refine cd_tuple rfl ?_)))
local macro_rules | `(tactic| walk_at "I") => `(tactic| ((with_reducible show ID _ _ _ _ _ _ _); first
  | refine id_lstP rfl rfl ?_ | refine id_tup rfl ?_ | refine id_lst rfl rfl ?_ | refine id_str ?_ ?_ ?_))
local macro_rules | `(tactic| walk_at "S") => `(tactic| ((with_reducible show DS _ _ _ _ _ _); first
  | ((with_reducible show DS _ _ (Stmt.Assign [Expr.Name _ _] _ _) _ _ _); walk_at "set")
  | refine ds_ret ?_ | refine ds_retN ?_ | refine ds_if ?_ | refine ds_expr ?_ rfl | refine ds_pass ?_ | refine ds_break ?_ | refine ds_continue ?_
  | ((with_reducible show DS _ _ (Stmt.Assign [Expr.Attribute _ _ _] _ _) _ _ _); refine ds_fld ?_ rfl)
  | ((with_reducible show DS _ _ (Stmt.Assign [Expr.Subscript _ (Expr.Tuple _ _ _) _] _ _) _ _ _); refine ds_dput (by assumption) ?_ rfl)
  | ((with_reducible show DS _ _ (Stmt.Assign [Expr.Subscript _ _ _] _ _) _ _ _); refine ds_setL ?_ (fun _ => rfl) rfl rfl rfl) | refine ds_asg ?_ rfl rfl rfl))
local macro_rules | `(tactic| walk_at "B") => `(tactic| ((with_reducible show DB _ _ _ _ _ _); first | refine db_cons ?_ | refine db_nil ?_))
local macro_rules | `(tactic| walk_at "G") => `(tactic| first
  | ((with_reducible show DG _ _ _ _ _ _ _); first | walk_at "gname" | refine dg_tup rfl rfl rfl rfl ?_)
  | ((with_reducible show DGs _ _ _ _ _ _ _); first | refine dgs_nil ?_ | refine dgs_cons ?_ rfl))
local macro_rules | `(tactic| walk_at "X") => `(tactic| first
  | ((with_reducible show ∃ n ss j i, S.p _ = S.p n ∧ _ ∧ _ ∧ _ ∧ _); refine ⟨_, _, _, _, rfl, rfl, rfl, rfl, ?_⟩)
  | ((with_reducible show ∃ n ss, S.p _ = S.p n ∧ _ ∧ _); refine ⟨_, _, rfl, rfl, ?_⟩)
  | ((with_reducible show ∃ n, S.d (D.int _) = S.d (D.int n) ∧ _ ∧ _ ∧ _); refine ⟨_, rfl, ?_, ?_, ?_⟩)
  | ((with_reducible show ∃ b, S.d (D.bl _) = S.d (D.bl b) ∧ _); refine ⟨_, rfl, ?_⟩)
  | ((with_reducible show ∃ b, S.d (D.int _) = S.d (D.int b) ∧ _); refine ⟨_, rfl, ?_⟩))
local macro_rules | `(tactic| walk_at "L") => `(tactic| ((with_reducible show LD _ _ _ _ _ _ _ _); first
  | ((with_reducible show LD _ _ (S.d (D.tup _)) _ _ _ _ _); refine ld_tup ?_)))
local macro_rules | `(tactic| walk_at "D") => `(tactic| ((with_reducible show DO _ _ _ _ _ _); first | refine do_none ?_ | refine do_some ?_))
local macro_rules | `(tactic| walk_at "step") => `(tactic| first | walk_at "E" | walk_at "O" | walk_at "I" | walk_at "A" | walk_at "C" | walk_at "B" | walk_at "S" | walk_at "T" | walk_at "W" | walk_at "G" | walk_at "D" | walk_at "L" | walk_at "X")
local macro_rules | `(tactic| walk_at "go") => `(tactic| repeat walk_at "step")
local macro_rules | `(tactic| walk_at "goE") => `(tactic| repeat (first | walk_at "E" | walk_at "O" | walk_at "I" | walk_at "A" | walk_at "C" | walk_at "T" | walk_at "W" | walk_at "G" | walk_at "D" | walk_at "L" | walk_at "X"))

namespace T
set_option pp.deepTerms false
set_option pp.deepTerms.threshold 3
section
variable {P : Program} {w : World} {K : PySem.W.Frag} {mg : Str → Option Value} {base : Heap}


def outA (bs : List Arr) (q : Int) : List Arr := bs.filter fun a => decide (a.1 = q)
theorem back_out (bs : List Arr) (g : Int → Int) (q : Int) : back bs g q = sumA g (outA bs q) := by
  unfold back sumA outA
  induction bs with
  | nil => rfl
  | cons a bs ih =>
    rw [List.map_cons, List.sum_cons, ih]
    by_cases h : a.1 = q
    · rw [if_pos h, List.filter_cons_of_pos (by simpa using h), List.map_cons, List.sum_cons]
    · rw [if_neg h, List.filter_cons_of_neg (by simpa using h), Int.zero_add]
def stepR (as : List Arr) (es : List Int) (k : Nat) (t : List Str × Int × Int) : List Str × Int × Int := match takeA (bws as es k) (outA (sortA as) t.2.1) t.2.2 with
  | some (a, q) => (t.1 ++ [a.2.1], a.2.2, q)
  | none => t
def runR (as : List Arr) (es : List Int) (n : Nat) (p : Int) : Nat → List Str × Int × Int
  | 0 => ([], 0, p)
  | j + 1 => stepR as es (n - 1 - j) (runR as es n p j)
def rowAt (as : List Arr) (es : List Int) (n : Nat) (p : Int) : List Str := (runR as es n p n).1
def InR (m : Int) (as : List Arr) (es : List Int) (k : Nat) (t : List Str × Int × Int) : Prop := 0 ≤ t.2.1 ∧ t.2.1 < m ∧ 0 ≤ t.2.2 ∧ t.2.2 < bws as es k t.2.1
theorem stepR_in {m : Int} {as : List Arr} {es : List Int} (ok : MachOk m as es) {k : Nat} {t : List Str × Int × Int} (h : InR m as es (k + 1) t) : ∃ a q, takeA (bws as es k) (outA (sortA as) t.2.1) t.2.2 = some (a, q) ∧ a ∈ as ∧ a.1 = t.2.1 ∧ stepR as es k t = (t.1 ++ [a.2.1], a.2.2, q) ∧ InR m as es k (stepR as es k t) := by
  obtain ⟨h0, h1, h2, h3⟩ := h
  have e : bws as es (k + 1) t.2.1 = sumA (bws as es k) (outA (sortA as) t.2.1) := by
    rw [← back_out, back_perm (sortA_perm as)]
    rfl
  rw [e] at h3
  obtain ⟨a, q, e1, hm, q0, q1⟩ := takeA_ok _ _ _ h2 h3
  obtain ⟨hm1, hm2⟩ := List.mem_filter.mp hm
  have ha := (sortA_perm as).mem_iff.mp hm1
  have es1 : stepR as es k t = (t.1 ++ [a.2.1], a.2.2, q) := by unfold stepR; rw [e1]
  obtain ⟨t0, t1⟩ := ok.ar.tg a ha
  exact ⟨a, q, e1, ha, of_decide_eq_true hm2, es1, by rw [es1]; exact ⟨t0, t1, q0, q1⟩⟩
theorem runR_in {m : Int} {as : List Arr} {es : List Int} (ok : MachOk m as es) {n : Nat} {p : Int} (h0 : 0 ≤ p) (h1 : p < bws as es n 0) : ∀ j, j ≤ n → InR m as es (n - j) (runR as es n p j) ∧ (runR as es n p j).1.length = j
  | 0, _ => ⟨⟨Int.le_refl 0, by have := ok.n1; show (0 : Int) < m; omega, h0, h1⟩, rfl⟩
  | j + 1, hj => by
    obtain ⟨h, hl⟩ := runR_in ok h0 h1 j (by omega)
    rw [show n - j = (n - 1 - j) + 1 by omega] at h
    obtain ⟨a, q, _, _, _, e, hi⟩ := stepR_in ok h
    refine ⟨by rw [show n - (j + 1) = n - 1 - j by omega]; exact hi, ?_⟩
    show (stepR as es (n - 1 - j) (runR as es n p j)).1.length = _
    rw [e, List.length_append, hl]
    rfl
def sdAt (C : Addr) : Sd := fun ss cs Q => ∃ (m : Int) (as : List Arr) (es : List Int) (L p : Int), ss = [.d (.ins C (mach m as es)), .d (.int L), .d (.int p)] ∧ MachOk m as es ∧ 0 ≤ L ∧ L ≤ 200 ∧ 0 ≤ p ∧ p < bws as es L.toNat 0 ∧ cs = [] ∧ Q (.new (.lst (((rowAt as es L.toNat p).map D.str).map S.d))) []

abbrev sAt : Stmt := top 21
theorem scAt : FnScope ["machine", "length", "number", "counts", "row", "state", "place", "left", "arrows", "arrow"] ["machine", "length", "number"] (defScope sAt) := ⟨rfl, rfl, rfl, by decide +kernel, rfl, by decide +kernel, by decide +kernel⟩
section
local macro_rules | `(tactic| walk_at "name") => `(tactic| first
  | ((with_reducible show DE _ _ (Expr.Name (Str.ofString "machine") _) _ _ _); refine de_name (i := 0) rfl (by walk_at "vis") rfl ?_ (by decide) (by decide))
  | ((with_reducible show DE _ _ (Expr.Name (Str.ofString "length") _) _ _ _); refine de_name (i := 1) rfl (by walk_at "vis") rfl ?_ (by decide) (by decide))
  | ((with_reducible show DE _ _ (Expr.Name (Str.ofString "number") _) _ _ _); refine de_name (i := 2) rfl (by walk_at "vis") rfl ?_ (by decide) (by decide))
  | ((with_reducible show DE _ _ (Expr.Name (Str.ofString "counts") _) _ _ _); refine de_name (i := 3) rfl (by walk_at "vis") rfl ?_ (by decide) (by decide))
  | ((with_reducible show DE _ _ (Expr.Name (Str.ofString "row") _) _ _ _); refine de_name (i := 4) rfl (by walk_at "vis") rfl ?_ (by decide) (by decide))
  | ((with_reducible show DE _ _ (Expr.Name (Str.ofString "state") _) _ _ _); refine de_name (i := 5) rfl (by walk_at "vis") rfl ?_ (by decide) (by decide))
  | ((with_reducible show DE _ _ (Expr.Name (Str.ofString "place") _) _ _ _); refine de_name (i := 6) rfl (by walk_at "vis") rfl ?_ (by decide) (by decide))
  | ((with_reducible show DE _ _ (Expr.Name (Str.ofString "left") _) _ _ _); refine de_name (i := 7) rfl (by walk_at "vis") rfl ?_ (by decide) (by decide))
  | ((with_reducible show DE _ _ (Expr.Name (Str.ofString "arrows") _) _ _ _); refine de_name (i := 8) rfl (by walk_at "vis") rfl ?_ (by decide) (by decide))
  | ((with_reducible show DE _ _ (Expr.Name (Str.ofString "arrow") _) _ _ _); refine de_name (i := 9) rfl (by walk_at "vis") rfl ?_ (by decide) (by decide)))
local macro_rules | `(tactic| walk_at "set") => `(tactic| first
  | ((with_reducible show DS _ _ (Stmt.Assign [Expr.Name (Str.ofString "machine") _] _ _) _ _ _); refine ds_set (i := 0) ?_ (by assumption) rfl (by walk_at "loc") rfl (by walk_at "loc"))
  | ((with_reducible show DS _ _ (Stmt.Assign [Expr.Name (Str.ofString "length") _] _ _) _ _ _); refine ds_set (i := 1) ?_ (by assumption) rfl (by walk_at "loc") rfl (by walk_at "loc"))
  | ((with_reducible show DS _ _ (Stmt.Assign [Expr.Name (Str.ofString "number") _] _ _) _ _ _); refine ds_set (i := 2) ?_ (by assumption) rfl (by walk_at "loc") rfl (by walk_at "loc"))
  | ((with_reducible show DS _ _ (Stmt.Assign [Expr.Name (Str.ofString "counts") _] _ _) _ _ _); refine ds_set (i := 3) ?_ (by assumption) rfl (by walk_at "loc") rfl (by walk_at "loc"))
  | ((with_reducible show DS _ _ (Stmt.Assign [Expr.Name (Str.ofString "row") _] _ _) _ _ _); refine ds_set (i := 4) ?_ (by assumption) rfl (by walk_at "loc") rfl (by walk_at "loc"))
  | ((with_reducible show DS _ _ (Stmt.Assign [Expr.Name (Str.ofString "state") _] _ _) _ _ _); refine ds_set (i := 5) ?_ (by assumption) rfl (by walk_at "loc") rfl (by walk_at "loc"))
  | ((with_reducible show DS _ _ (Stmt.Assign [Expr.Name (Str.ofString "place") _] _ _) _ _ _); refine ds_set (i := 6) ?_ (by assumption) rfl (by walk_at "loc") rfl (by walk_at "loc"))
  | ((with_reducible show DS _ _ (Stmt.Assign [Expr.Name (Str.ofString "left") _] _ _) _ _ _); refine ds_set (i := 7) ?_ (by assumption) rfl (by walk_at "loc") rfl (by walk_at "loc"))
  | ((with_reducible show DS _ _ (Stmt.Assign [Expr.Name (Str.ofString "arrows") _] _ _) _ _ _); refine ds_set (i := 8) ?_ (by assumption) rfl (by walk_at "loc") rfl (by walk_at "loc"))
  | ((with_reducible show DS _ _ (Stmt.Assign [Expr.Name (Str.ofString "arrow") _] _ _) _ _ _); refine ds_set (i := 9) ?_ (by assumption) rfl (by walk_at "loc") rfl (by walk_at "loc")))
local macro_rules | `(tactic| walk_at "gname") => `(tactic| first
  | ((with_reducible show DG _ _ (Expr.Name (Str.ofString "machine") _) _ _ _ _); refine dg_name (i := 0) (by assumption) rfl (by walk_at "loc") (by walk_at "loc") ?_)
  | ((with_reducible show DG _ _ (Expr.Name (Str.ofString "length") _) _ _ _ _); refine dg_name (i := 1) (by assumption) rfl (by walk_at "loc") (by walk_at "loc") ?_)
  | ((with_reducible show DG _ _ (Expr.Name (Str.ofString "number") _) _ _ _ _); refine dg_name (i := 2) (by assumption) rfl (by walk_at "loc") (by walk_at "loc") ?_)
  | ((with_reducible show DG _ _ (Expr.Name (Str.ofString "counts") _) _ _ _ _); refine dg_name (i := 3) (by assumption) rfl (by walk_at "loc") (by walk_at "loc") ?_)
  | ((with_reducible show DG _ _ (Expr.Name (Str.ofString "row") _) _ _ _ _); refine dg_name (i := 4) (by assumption) rfl (by walk_at "loc") (by walk_at "loc") ?_)
  | ((with_reducible show DG _ _ (Expr.Name (Str.ofString "state") _) _ _ _ _); refine dg_name (i := 5) (by assumption) rfl (by walk_at "loc") (by walk_at "loc") ?_)
  | ((with_reducible show DG _ _ (Expr.Name (Str.ofString "place") _) _ _ _ _); refine dg_name (i := 6) (by assumption) rfl (by walk_at "loc") (by walk_at "loc") ?_)
  | ((with_reducible show DG _ _ (Expr.Name (Str.ofString "left") _) _ _ _ _); refine dg_name (i := 7) (by assumption) rfl (by walk_at "loc") (by walk_at "loc") ?_)
  | ((with_reducible show DG _ _ (Expr.Name (Str.ofString "arrows") _) _ _ _ _); refine dg_name (i := 8) (by assumption) rfl (by walk_at "loc") (by walk_at "loc") ?_)
  | ((with_reducible show DG _ _ (Expr.Name (Str.ofString "arrow") _) _ _ _ _); refine dg_name (i := 9) (by assumption) rfl (by walk_at "loc") (by walk_at "loc") ?_))

theorem ok_At {C : Addr} {f : Addr} {fd : FuncData} (FF : Fun K "row_at" "row_at" sAt f fd) (cl : Cls K C) (c1 : Cal P w K mg base 2 "_check_length" ["length"] sdCL) (c2 : Cal P w K mg base 2 "_counts" ["machine", "length"] (sdCo C)) (c3 : Cal P w K mg base 1 "is_integer" ["value"] sdII) (c4 : Cal P w K mg base 1 "_take_arrow" ["arrows", "counts", "place"] sdTA) (e3 : MeC P w K mg base C 1 "arrows" (sdG C fun n as es => .d (.tup (sortD (as.map arD))))) (m1 : mg "range" = none) (m2 : mg "reversed" = none) : FnG P w K mg base CX0 3 f fd ["machine", "length", "number"] (spOf K 3 (sdAt C)) := by
  have nd := scAt.nd
  refine fn_ok FF scAt ?_
  intro cdv A outer s H E F ss cs Q hr hgu hsd hl hθ
  obtain ⟨m, as, es, L, p, rfl, ok, h0, h2, p0, p1, rfl, k⟩ := hsd
  have hm1 := ok.n1
  have h40 := ok.ar.ln
  walk_at "go"
  refine spd0' rfl rfl ⟨L, rfl, h0, h2, rfl, got_d ?_⟩
  walk_at "go"
  refine spd0' rfl rfl ⟨m, as, es, L, rfl, ok, h0, h2, rfl, got_d ?_⟩
  walk_at "go"
  refine spd0' rfl rfl ⟨_, _, rfl, rfl, rfl, got_d ?_⟩
  refine ⟨_, rfl, fun h => absurd h (by simp [isI]), fun _ => ?_⟩
  walk_at "go"
  refine ⟨fun _ => ?_, fun h => absurd (of_decide_eq_false h) (by omega)⟩
  walk_at "go"
  refine id_lst rfl (atI_at h0 (by rw [rowsD_len]; omega) (rowsD_get (by omega))) ?_
  walk_at "go"
  refine id_lst rfl (atI_at (Int.le_refl 0) (by rw [List.length_map, vecI_len]; omega) (by rw [List.getElem?_map, vecI_get _ (Int.le_refl 0) (by omega)]; rfl)) ?_
  walk_at "go"
  rw [show decide (p < bws as es L.toNat 0) = true from decide_eq_true p1]
  refine ⟨fun h => absurd h (by decide), fun _ => ?_⟩
  walk_at "go"
  refine ⟨Nat.zero_le _, ?_⟩
  walk_at "go"
  refine ds_forRev PassesOwn.never rfl rfl m2 rfl m1 (fun _ => rfl) rfl rfl ?_
  walk_at "goE"
  any_goals omega
  have fdL : ∀ ds : List D, (DL.C.lst (ds.map S.d)).fd = true := fun ds => by simp [DL.C.fd, DL.C.flat, flatS]
  refine ⟨fun i ρ M => ∃ (x7 x8 x9 : Option S), ρ = [some (.d (.ins C (mach m as es))), some (.d (.int L)), some (.d (.int p)), some (.d (.lst (rowsD m as es (L.toNat + 1)))), some (.p 0), some (.d (.int (runR as es L.toNat p i).2.1)), some (.d (.int (runR as es L.toNat p i).2.2)), x7, x8, x9] ∧ M = [DL.C.lst (((runR as es L.toNat p i).1.map D.str).map S.d)], ⟨_, _, _, rfl, rfl⟩, ?_, ?_⟩
  · rintro i ρ' M' hi ⟨x7, x8, x9, rfl, rfl⟩
    obtain ⟨hin, hlen⟩ := runR_in ok p0 p1 i (by omega)
    rw [show L.toNat - i = (L.toNat - 1 - i) + 1 by omega] at hin
    obtain ⟨a, q, et, ham, ha1, er, hin2⟩ := stepR_in ok hin
    have er2 : runR as es L.toNat p (i + 1) = ((runR as es L.toNat p i).1 ++ [a.2.1], a.2.2, q) := er
    obtain ⟨i0, i1, i2, i3⟩ := hin
    generalize hT : runR as es L.toNat p i = T at et er2 i0 i1 i2 i3 hlen ⊢
    have hsum : T.2.2 < sumA (bws as es (L.toNat - 1 - i)) (outA (sortA as) T.2.1) := by
      rw [← back_out, back_perm (sortA_perm as)]
      exact i3
    have hol : (outA (sortA as) T.2.1).length ≤ 40 := by
      refine Nat.le_trans (List.length_filter_le _ _) ?_
      rw [(sortA_perm as).length_eq]
      exact h40
    have hot : ∀ b ∈ outA (sortA as) T.2.1, 0 ≤ b.2.2 ∧ b.2.2 < m := fun b hb => ok.ar.tg b ((sortA_perm as).mem_iff.mp (List.mem_filter.mp hb).1)
    walk_at "gname"
    refine db_cons ?_
    refine ds_setLcT (i := 9) (j := 8) rfl nd rfl rfl (sw_true rfl rfl rfl (by decide +kernel)) (blkOk_by rfl) (fun s H C cl fp => pg_name nd rfl (by walk_at "loc") (by walk_at "loc")) (fun _ => rfl) ?_
    refine de_mC cl e3 hr hgu (by decide) rfl ?_
    walk_at "goE"
    refine ⟨_, rfl, rfl, spd0' rfl rfl ⟨m, as, es, rfl, h40, rfl, got_d ?_⟩⟩
    rw [sortD_arr]
    refine ⟨_, rfl, fun k acc M1 => acc = (((sortA as).take k).filter fun b => decide (b.1 = T.2.1)).map arD ∧ M1 = [DL.C.lst ((T.1.map D.str).map S.d)], ⟨rfl, rfl⟩, ?_, ?_⟩
    · rintro k d acc M1 hk ⟨ea, rfl⟩ hl1
      rw [List.getElem?_map] at hk
      obtain ⟨b, hb, rfl⟩ := Option.map_eq_some_iff.mp hk
      have ez : acc.length < sizeLine := by
        rw [ea, List.length_map, sizeLine_eq]
        refine Nat.lt_of_le_of_lt (List.length_filter_le _ _) ?_
        rw [List.length_take, (sortA_perm as).length_eq]
        omega
      intro s H2 C2 cl2 fp
      refine dts_one ?_
      walk_at "goE"
      refine ⟨fun h s H2 C2 cl2 fp => ?_, fun h => ?_⟩
      · walk_at "goE"
        refine ⟨_, _, rfl, rfl, rfl, ez, ?_, rfl⟩
        have hb1 : b.1 = T.2.1 := of_decide_eq_true h
        rw [ea, List.take_succ, hb, Option.toList_some, List.filter_append, List.map_append]
        simp [hb1]
      · refine ⟨_, rfl, rfl, ?_, rfl⟩
        have hb1 : ¬ b.1 = T.2.1 := of_decide_eq_false h
        rw [ea, List.take_succ, hb, Option.toList_some, List.filter_append, List.map_append]
        simp [hb1]
    · rintro acc M1 ⟨ea, rfl⟩ hl1
      rw [List.length_map, List.take_length] at ea
      subst ea
      refine ⟨by rw [List.all_cons, fdL]; rfl, ?_⟩
      refine db_cons ?_
      walk_at "S"
      walk_at "goE"
      refine id_lst rfl (atI_at (by omega) (by rw [rowsD_len]; omega) (by rw [show (L - 1 - (i : Int)).toNat = L.toNat - 1 - i by omega]; exact rowsD_get (by omega))) ?_
      walk_at "goE"
      refine spd0' rfl rfl ⟨m, outA (sortA as) T.2.1, bws as es (L.toNat - 1 - i), T.2.2, rfl, hol, hot, i2, hsum, rfl, fun a' q' e' => got_d ?_⟩
      rw [et] at e'
      cases e'
      walk_at "goE"
      refine db_cons ?_
      walk_at "S"
      walk_at "goE"
      refine ⟨_, rfl, by rw [List.length_map, List.length_map, sizeLine_eq]; omega, ?_⟩
      refine db_cons ?_
      walk_at "S"
      walk_at "goE"
      refine db_nil ?_
      show ∃ x7 x8 x9 : Option S, _ ∧ _
      rw [er2]
      refine ⟨_, _, _, rfl, ?_⟩
      simp
  · rintro ρ' M' ⟨x7, x8, x9, rfl, rfl⟩
    walk_at "go"
    exact rets_p rfl (Nat.le_refl _) rfl (by simp [DL.C.flat, flatS]) k

end
end
end T
end

section
set_option Elab.async false
set_option linter.all false
set_option maxRecDepth 100000
set_option maxHeartbeats 2000000
open PySem PySem.Spec PyProof.Rows L2 DL

local macro_rules | `(tactic| walk_at "vis") => `(tactic| first | exact Or.inl rfl | exact Or.inr (Or.inl rfl) | exact Or.inr (Or.inr rfl))
local macro_rules | `(tactic| walk_at "loc") => `(tactic| first | exact Or.inl rfl | exact Or.inr rfl)
local macro_rules | `(tactic| walk_at "side") => `(tactic| first | assumption | omega | decide)
local macro_rules | `(tactic| walk_at "callB") => `(tactic| first
  | ((with_reducible show DE _ _ (Expr.Call (Expr.Name (Str.ofString "len") _) _ _ _) _ _ _); refine de_callB (id := "len") rfl (by assumption) (by decide +kernel) (by decide) (by decide) rfl rfl ?_)
  | ((with_reducible show DE _ _ (Expr.Call (Expr.Name (Str.ofString "max") _) _ _ _) _ _ _); refine de_callB (id := "max") rfl (by assumption) (by decide +kernel) (by decide) (by decide) rfl rfl ?_)
  | ((with_reducible show DE _ _ (Expr.Call (Expr.Name (Str.ofString "min") _) _ _ _) _ _ _); refine de_callB (id := "min") rfl (by assumption) (by decide +kernel) (by decide) (by decide) rfl rfl ?_)
  | ((with_reducible show DE _ _ (Expr.Call (Expr.Name (Str.ofString "abs") _) _ _ _) _ _ _); refine de_callB (id := "abs") rfl (by assumption) (by decide +kernel) (by decide) (by decide) rfl rfl ?_)
  | ((with_reducible show DE _ _ (Expr.Call (Expr.Name (Str.ofString "repr") _) _ _ _) _ _ _); refine de_callB (id := "repr") rfl (by assumption) (by decide +kernel) (by decide) (by decide) rfl rfl ?_)
  | ((with_reducible show DE _ _ (Expr.Call (Expr.Name (Str.ofString "isinstance") _) _ _ _) _ _ _); refine de_callB (id := "isinstance") rfl (by assumption) (by decide +kernel) (by decide) (by decide) rfl rfl ?_)
  | ((with_reducible show DE _ _ (Expr.Call (Expr.Name (Str.ofString "sorted") _) _ _ _) _ _ _); refine de_callB (id := "sorted") rfl (by assumption) (by decide +kernel) (by decide) (by decide) rfl rfl ?_)
  | ((with_reducible show DE _ _ (Expr.Call (Expr.Name (Str.ofString "all") _) _ _ _) _ _ _); refine de_callB (id := "all") rfl (by assumption) (by decide +kernel) (by decide) (by decide) rfl rfl ?_)
  | ((with_reducible show DE _ _ (Expr.Call (Expr.Name (Str.ofString "any") _) _ _ _) _ _ _); refine de_callB (id := "any") rfl (by assumption) (by decide +kernel) (by decide) (by decide) rfl rfl ?_)
  | ((with_reducible show DE _ _ (Expr.Call (Expr.Name (Str.ofString "sum") _) _ _ _) _ _ _); refine de_callB (id := "sum") rfl (by assumption) (by decide +kernel) (by decide) (by decide) rfl rfl ?_)
  | ((with_reducible show DE _ _ (Expr.Call (Expr.Name (Str.ofString "int") _) _ _ _) _ _ _); refine de_callTy (T := "int") rfl (by assumption) (by decide +kernel) (by decide) (by decide) rfl rfl ?_)
  | ((with_reducible show DE _ _ (Expr.Call (Expr.Name (Str.ofString "tuple") _) _ _ _) _ _ _); refine de_callTy (T := "tuple") rfl (by assumption) (by decide +kernel) (by decide) (by decide) rfl rfl ?_)
  | ((with_reducible show DE _ _ (Expr.Call (Expr.Name (Str.ofString "list") _) _ _ _) _ _ _); refine de_callTy (T := "list") rfl (by assumption) (by decide +kernel) (by decide) (by decide) rfl rfl ?_)
  | ((with_reducible show DE _ _ (Expr.Call (Expr.Name (Str.ofString "set") _) _ _ _) _ _ _); refine de_callTy (T := "set") rfl (by assumption) (by decide +kernel) (by decide) (by decide) rfl rfl ?_)
  | ((with_reducible show DE _ _ (Expr.Call (Expr.Name (Str.ofString "str") _) _ _ _) _ _ _); refine de_callTy (T := "str") rfl (by assumption) (by decide +kernel) (by decide) (by decide) rfl rfl ?_))
local macro_rules | `(tactic| walk_at "own") => `(tactic| refine de_own (by assumption) (by assumption) (by assumption) (by decide) rfl (by decide) rfl rfl ?_)
local macro_rules | `(tactic| walk_at "bname") => `(tactic| first
  | ((with_reducible show DE _ _ (Expr.Name (Str.ofString "LETTERS") _) _ _ _); refine de_glob (v := .str abc) rfl (by assumption) ⟨_, rfl⟩ (fun _ => .str _) ?_ (by decide))
  | ((with_reducible show DE _ _ (Expr.Name (Str.ofString "LONGEST_WORD") _) _ _ _); refine de_glob (v := .int 8) rfl (by assumption) ⟨_, rfl⟩ (fun _ => .int _) ?_ (by decide))
  | ((with_reducible show DE _ _ (Expr.Name (Str.ofString "MOST_STATES") _) _ _ _); refine de_glob (v := .int 5) rfl (by assumption) ⟨_, rfl⟩ (fun _ => .int _) ?_ (by decide))
  | ((with_reducible show DE _ _ (Expr.Name (Str.ofString "MOST_ARROWS") _) _ _ _); refine de_glob (v := .int 40) rfl (by assumption) ⟨_, rfl⟩ (fun _ => .int _) ?_ (by decide))
  | ((with_reducible show DE _ _ (Expr.Name (Str.ofString "int") _) _ _ _); refine de_bltn (v := .ty "int") rfl (by assumption) (by decide +kernel) rfl ?_ (by decide) (by decide))
  | ((with_reducible show DE _ _ (Expr.Name (Str.ofString "bool") _) _ _ _); refine de_bltn (v := .ty "bool") rfl (by assumption) (by decide +kernel) rfl ?_ (by decide) (by decide))
  | ((with_reducible show DE _ _ (Expr.Name (Str.ofString "str") _) _ _ _); refine de_bltn (v := .ty "str") rfl (by assumption) (by decide +kernel) rfl ?_ (by decide) (by decide))
  | ((with_reducible show DE _ _ (Expr.Name (Str.ofString "tuple") _) _ _ _); refine de_bltn (v := .ty "tuple") rfl (by assumption) (by decide +kernel) rfl ?_ (by decide) (by decide))
  | ((with_reducible show DE _ _ (Expr.Name (Str.ofString "list") _) _ _ _); refine de_bltn (v := .ty "list") rfl (by assumption) (by decide +kernel) rfl ?_ (by decide) (by decide)))
local macro_rules | `(tactic| walk_at "E") => `(tactic| ((with_reducible show DE _ _ _ _ _ _); first
  | ((with_reducible show DE _ _ (Expr.Name _ _) _ _ _); first | walk_at "name" | walk_at "bname")
  | refine de_int ?_ | refine de_str ?_ | refine de_bl ?_ | refine de_non ?_
  | ((with_reducible show DE _ _ (Expr.Subscript _ (Expr.Tuple _ _ _) _) _ _ _); refine de_dget (by assumption) ?_ (fun _ _ => rfl))
  | ((with_reducible show DE _ _ (Expr.Subscript _ (Expr.Slice _ _ _ _) _) _ _ _); first | refine de_revS ?_ | refine de_slice ?_)
  | refine de_ix ?_ (fun _ _ => rfl)
  | refine de_bin ?_ | refine de_cmp ?_ (by first | exact nomark _ | rfl) | refine de_chain ?_ rfl
  | refine de_one ?_ | refine de_neg ?_ | refine de_and ?_ | refine de_or ?_ | refine de_not ?_ | refine de_if ?_
  | refine de_tup ?_ | refine de_lstP (es := []) ?_ | refine de_lst ?_
  | ((with_reducible show DE _ _ (Expr.Call (Expr.Name _ _) _ _ _) _ _ _); first | walk_at "callB" | walk_at "own")
  | ((with_reducible show DE _ _ (Expr.Call (Expr.Attribute _ (Str.ofString "append") _) _ _ _) _ _ _); refine de_append ?_ rfl rfl rfl rfl rfl)
  | ((with_reducible show DE _ _ (Expr.Call (Expr.Attribute _ (Str.ofString "insert") _) _ _ _) _ _ _); refine de_insert ?_ rfl rfl rfl rfl rfl rfl)))
local macro_rules | `(tactic| walk_at "T") => `(tactic| ((with_reducible show DT _ _ _ _ _ _); first
  | ((with_reducible show DT _ _ (Expr.Compare (Expr.Tuple _ _ _) [CmpOp.In] _ _) _ _ _); refine dt_din (by assumption) ?_ rfl)
  | refine dt_cmp ?_ (by first | exact nomark _ | rfl) | refine dt_chain ?_ rfl | refine dt_not ?_ | refine dt_w (dw_and ?_) | refine dt_w (dw_or ?_) | refine dt_val ?_ (fun _ => rfl)))
local macro_rules | `(tactic| walk_at "W") => `(tactic| ((with_reducible show DW _ _ _ _ _ _); first
  | refine dw_and ?_ | refine dw_or ?_ | refine dw_and1 ?_ | refine dw_or1 ?_))
local macro_rules | `(tactic| walk_at "A") => `(tactic| ((with_reducible show DA _ _ _ _ _ _); first | refine da_nil ?_ | refine da_cons ?_ rfl))
local macro_rules | `(tactic| walk_at "O") => `(tactic| ((with_reducible show BD _ _ _ _ _ _ _ _); first
  | ((with_reducible show BD _ _ (binaryOp Operator.Add) (S.d (D.int _)) (S.d (D.int _)) _ _ _); refine bd_add ?_)
  | ((with_reducible show BD _ _ (binaryOp Operator.Add) (S.d (D.str _)) (S.d (D.str _)) _ _ _); refine bd_addS ?_ ?_)
  | ((with_reducible show BD _ _ (binaryOp Operator.Sub) (S.d (D.int _)) (S.d (D.int _)) _ _ _); refine bd_sub ?_)
  | ((with_reducible show BD _ _ (binaryOp Operator.Mod) (S.d (D.int _)) (S.d (D.int _)) _ _ _); refine bd_mod (by walk_at "side") ?_)
  | ((with_reducible show BD _ _ (binaryOp Operator.Mult) (S.d (D.int _)) (S.d (D.int _)) _ _ _); refine bd_mul ?_ ?_)
  | ((with_reducible show BD _ _ (binaryOp Operator.FloorDiv) (S.d (D.int _)) (S.d (D.int _)) _ _ _); refine bd_fdivW ?_ ?_)
  | ((with_reducible show BD _ _ (binaryOp Operator.Pow) (S.d (D.int _)) (S.d (D.int _)) _ _ _); refine bd_pow ?_ ?_)
  | ((with_reducible show BD _ _ (compareOp CmpOp.Lt) (S.d (D.int _)) (S.d (D.int _)) _ _ _); refine bd_lt ?_)
  | ((with_reducible show BD _ _ (compareOp CmpOp.LtE) (S.d (D.int _)) (S.d (D.int _)) _ _ _); refine bd_le ?_)
  | ((with_reducible show BD _ _ (compareOp CmpOp.Gt) (S.d (D.int _)) (S.d (D.int _)) _ _ _); refine bd_gt ?_)
  | ((with_reducible show BD _ _ (compareOp CmpOp.GtE) (S.d (D.int _)) (S.d (D.int _)) _ _ _); refine bd_ge ?_)
  | ((with_reducible show BD _ _ (compareOp CmpOp.Eq) (S.d (D.int _)) (S.d (D.int _)) _ _ _); refine bd_eqI ?_)
  | ((with_reducible show BD _ _ (compareOp CmpOp.NotEq) (S.d (D.int _)) (S.d (D.int _)) _ _ _); refine bd_neI ?_)
  | ((with_reducible show BD _ _ (compareOp CmpOp.Eq) (S.d (D.str _)) (S.d (D.str _)) _ _ _); refine bd_eqS ?_)
  | ((with_reducible show BD _ _ (compareOp CmpOp.NotEq) (S.d (D.str _)) (S.d (D.str _)) _ _ _); refine bd_neS ?_)
  | ((with_reducible show BD _ _ (compareOp CmpOp.Is) _ (S.d D.non) _ _ _); refine bd_isN (by first | (intro y h; cases h) | assumption) ?_)
  | ((with_reducible show BD _ _ (compareOp CmpOp.IsNot) _ (S.d D.non) _ _ _); refine bd_notN (by first | (intro y h; cases h) | assumption) ?_)))
local macro_rules | `(tactic| walk_at "C") => `(tactic| ((with_reducible show CD _ _ _ _ _ _ _); first
  | ((with_reducible show CD _ _ (Value.type "int") _ _ _ _); refine cd_int ?_)
  | ((with_reducible show CD _ _ (Value.builtin "abs") _ _ _ _); refine cd_abs ?_)
  | ((with_reducible show CD _ _ (Value.builtin "max") _ _ _ _); refine cd_max2 rfl ?_)
  | ((with_reducible show CD _ _ (Value.builtin "min") _ _ _ _); refine cd_min2 rfl ?_)
  | ((with_reducible show CD _ _ (Value.builtin "isinstance") _ _ _ _); refine cd_isiK (by first | rfl | assumption) (by first | decide | exact tyD_six (by assumption)) (by decide) (by decide) ?_)
  | ((with_reducible show CD _ _ (Value.builtin "len") _ _ _ _); first | refine cd_lenT ?_ | refine cd_lenS ?_ ?_ | refine cd_lenP rfl ?_ | refine cd_lenL rfl ?_)
  | ((with_reducible show CD _ _ (Value.type "tuple") _ _ _ _); first | refine cd_tupleT ?_ | refine cd_tuple rfl ?_)))
local macro_rules | `(tactic| walk_at "I") => `(tactic| ((with_reducible show ID _ _ _ _ _ _ _); first
  | refine id_lstP rfl rfl ?_ | refine id_tup rfl ?_ | refine id_lst rfl rfl ?_ | refine id_str ?_ ?_ ?_))
local macro_rules | `(tactic| walk_at "S") => `(tactic| ((with_reducible show DS _ _ _ _ _ _); first
  | ((with_reducible show DS _ _ (Stmt.Assign [Expr.Name _ _] _ _) _ _ _); walk_at "set")
  | refine ds_ret ?_ | refine ds_retN ?_ | refine ds_if ?_ | refine ds_expr ?_ rfl | refine ds_pass ?_ | refine ds_break ?_ | refine ds_continue ?_
  | ((with_reducible show DS _ _ (Stmt.Assign [Expr.Attribute _ _ _] _ _) _ _ _); refine ds_fld ?_ rfl)
  | ((with_reducible show DS _ _ (Stmt.Assign [Expr.Subscript _ (Expr.Tuple _ _ _) _] _ _) _ _ _); refine ds_dput (by assumption) ?_ rfl)
  | ((with_reducible show DS _ _ (Stmt.Assign [Expr.Subscript _ _ _] _ _) _ _ _); refine ds_setL ?_ (fun _ => rfl) rfl rfl rfl) | refine ds_asg ?_ rfl rfl rfl))
local macro_rules | `(tactic| walk_at "B") => `(tactic| ((with_reducible show DB _ _ _ _ _ _); first | refine db_cons ?_ | refine db_nil ?_))
local macro_rules | `(tactic| walk_at "G") => `(tactic| first
  | ((with_reducible show DG _ _ _ _ _ _ _); first | walk_at "gname" | refine dg_tup rfl rfl rfl rfl ?_)
  | ((with_reducible show DGs _ _ _ _ _ _ _); first | refine dgs_nil ?_ | refine dgs_cons ?_ rfl))
local macro_rules | `(tactic| walk_at "X") => `(tactic| first
  | ((with_reducible show ∃ n ss j i, S.p _ = S.p n ∧ _ ∧ _ ∧ _ ∧ _); refine ⟨_, _, _, _, rfl, rfl, rfl, rfl, ?_⟩)
  | ((with_reducible show ∃ n ss, S.p _ = S.p n ∧ _ ∧ _); refine ⟨_, _, rfl, rfl, ?_⟩)
  | ((with_reducible show ∃ n, S.d (D.int _) = S.d (D.int n) ∧ _ ∧ _ ∧ _); refine ⟨_, rfl, ?_, ?_, ?_⟩)
  | ((with_reducible show ∃ b, S.d (D.bl _) = S.d (D.bl b) ∧ _); refine ⟨_, rfl, ?_⟩)
  | ((with_reducible show ∃ b, S.d (D.int _) = S.d (D.int b) ∧ _); refine ⟨_, rfl, ?_⟩))
local macro_rules | `(tactic| walk_at "L") => `(tactic| ((with_reducible show LD _ _ _ _ _ _ _ _); first
  | ((with_reducible show LD _ _ (S.d (D.tup _)) _ _ _ _ _); refine ld_tup ?_)))
local macro_rules | `(tactic| walk_at "D") => `(tactic| ((with_reducible show DO _ _ _ _ _ _); first | refine do_none ?_ | refine do_some ?_))
local macro_rules | `(tactic| walk_at "step") => `(tactic| first | walk_at "E" | walk_at "O" | walk_at "I" | walk_at "A" | walk_at "C" | walk_at "B" | walk_at "S" | walk_at "T" | walk_at "W" | walk_at "G" | walk_at "D" | walk_at "L" | walk_at "X")
local macro_rules | `(tactic| walk_at "go") => `(tactic| repeat walk_at "step")
local macro_rules | `(tactic| walk_at "goE") => `(tactic| repeat (first | walk_at "E" | walk_at "O" | walk_at "I" | walk_at "A" | walk_at "C" | walk_at "T" | walk_at "W" | walk_at "G" | walk_at "D" | walk_at "L" | walk_at "X"))

namespace T
set_option pp.deepTerms false
set_option pp.deepTerms.threshold 3
section
variable {P : Program} {w : World} {K : PySem.W.Frag} {mg : Str → Option Value} {base : Heap}

abbrev sLt (y z : Str) : Bool := PySem.W.dataLt (.str y) (.str z)
theorem sLt_irr (y : Str) : sLt y y = false := by
  unfold sLt
  rw [PySem.W.dataLt_str]
  exact decide_eq_false (List.lt_irrefl _)
theorem sLt_asym {y z : Str} (h : sLt y z = true) : sLt z y = false := by
  unfold sLt at h ⊢
  rw [PySem.W.dataLt_str] at h ⊢
  exact decide_eq_false (List.lt_asymm (of_decide_eq_true h))
theorem sLt_tri {y z : Str} (h : sLt z y = false) (hn : y ≠ z) : sLt y z = true := by
  unfold sLt at h ⊢
  rw [PySem.W.dataLt_str] at h ⊢
  refine decide_eq_true ?_
  have h1 : ¬ z.cps.toList < y.cps.toList := of_decide_eq_false h
  refine Decidable.byContradiction fun h2 => hn (strLe_anti (decide_eq_true (List.not_lt.mp h1)) (decide_eq_true (List.not_lt.mp h2)))
theorem arr_lt (q : Int) (y z : Str) (t u : Int) (hn : y ≠ z) : PySem.W.dataLt (pyD (arD (q, y, t))) (pyD (arD (q, z, u))) = sLt y z := by
  show PySem.W.dataLt (.tuple [.int q, .str y, .int t]) (.tuple [.int q, .str z, .int u]) = _
  rw [PySem.W.dataLt_tuple, PySem.W.dataLt_cons (by simp [PySem.W.alike]), if_pos (by simp [PyData.eqv]), PySem.W.dataLt_cons (by simp [PySem.W.alike]), if_neg (by simp [PyData.eqv]; exact hn)]
theorem sortA_pw (as : List Arr) : (sortA as).Pairwise fun a b => PySem.W.dataLt (pyD (arD b)) (pyD (arD a)) = false := by
  have T := PySem.W.sortLe_total (PyProof.Rows.listOrd PyProof.Rows.itemOrd) false fun a : Arr => PySem.W.keyToks (pyD (arD a))
  refine (PySem.W.sort_pairwise T as).imp fun {a b} h => ?_
  have h : (!PySem.W.dataLt (pyD (arD b)) (pyD (arD a))) = true := h
  simpa using h
theorem sortA_nd {as : List Arr} (h : (as.map keyA).Nodup) : (sortA as).Pairwise fun a b => keyA a ≠ keyA b := by
  have : ((sortA as).map keyA).Nodup := ((sortA_perm as).map keyA).nodup_iff.mpr h
  exact List.pairwise_map.mp this
theorem outA_pw {as : List Arr} (h : (as.map keyA).Nodup) (q : Int) : (outA (sortA as) q).Pairwise fun a b => sLt a.2.1 b.2.1 = true := by
  have h1 := ((sortA_pw as).and (sortA_nd h)).filter (fun a => decide (a.1 = q))
  refine List.Pairwise.imp_of_mem (fun {a b} ma mb h2 => ?_) h1
  have ea : a.1 = q := by simpa using (List.mem_filter.mp ma).2
  have eb : b.1 = q := by simpa using (List.mem_filter.mp mb).2
  obtain ⟨a1, a2, a3⟩ := a
  obtain ⟨b1, b2, b3⟩ := b
  have ea : a1 = q := ea
  have eb : b1 = q := eb
  subst ea
  subst eb
  obtain ⟨h3, h4⟩ := h2
  have hn : a2 ≠ b2 := fun e => h4 (by subst e; rfl)
  refine sLt_tri ?_ hn
  rw [← arr_lt b1 b2 a2 b3 a3 hn.symm]
  exact h3

theorem runR_step {m : Int} {as : List Arr} {es : List Int} (ok : MachOk m as es) {n : Nat} {p : Int} (h0 : 0 ≤ p) (h1 : p < bws as es n 0) {j : Nat} (hj : j < n) : ∃ a q, takeA (bws as es (n - 1 - j)) (outA (sortA as) (runR as es n p j).2.1) (runR as es n p j).2.2 = some (a, q) ∧ a ∈ as ∧ a.1 = (runR as es n p j).2.1 ∧ runR as es n p (j + 1) = ((runR as es n p j).1 ++ [a.2.1], a.2.2, q) := by
  obtain ⟨hin, _⟩ := runR_in ok h0 h1 j (by omega)
  rw [show n - j = (n - 1 - j) + 1 by omega] at hin
  obtain ⟨a, q, et, ha, ha1, er, _⟩ := stepR_in ok hin
  exact ⟨a, q, et, ha, ha1, er⟩
theorem runR_pre {m : Int} {as : List Arr} {es : List Int} (ok : MachOk m as es) {n : Nat} {p : Int} (h0 : 0 ≤ p) (h1 : p < bws as es n 0) {j : Nat} : ∀ d, j + d ≤ n → (runR as es n p j).1 <+: (runR as es n p (j + d)).1
  | 0, _ => List.prefix_refl _
  | d + 1, h => by
    obtain ⟨a, q, _, _, _, e⟩ := runR_step ok h0 h1 (j := j + d) (by omega)
    show _ <+: (runR as es n p (j + d + 1)).1
    rw [e]
    exact (runR_pre ok h0 h1 d (by omega)).trans (List.prefix_append _ _)
theorem rowAt_len {m : Int} {as : List Arr} {es : List Int} (ok : MachOk m as es) {n : Nat} {p : Int} (h0 : 0 ≤ p) (h1 : p < bws as es n 0) : (rowAt as es n p).length = n := (runR_in ok h0 h1 n (Nat.le_refl n)).2

theorem rowAt_end {m : Int} {as : List Arr} {es : List Int} (ok : MachOk m as es) {n : Nat} {p : Int} (h0 : 0 ≤ p) (h1 : p < bws as es n 0) : (runR as es n p n).2.1 ∈ es ∧ (runR as es n p n).2.2 = 0 := by
  obtain ⟨⟨_, _, h2, h3⟩, _⟩ := runR_in ok h0 h1 n (Nat.le_refl n)
  rw [Nat.sub_self] at h3
  have h3 : (runR as es n p n).2.2 < ind es (runR as es n p n).2.1 := h3
  unfold ind at h3
  by_cases h : (runR as es n p n).2.1 ∈ es
  · rw [if_pos h] at h3
    exact ⟨h, by omega⟩
  · rw [if_neg h] at h3
    omega

/-- rows of one length, in order -/
def bel : List Str → List Str → Bool
  | x :: xs, y :: ys => if x = y then bel xs ys else sLt x y
  | _, _ => false
theorem sLt_trans {x y z : Str} (h1 : sLt x y = true) (h2 : sLt y z = true) : sLt x z = true := by
  unfold sLt at h1 h2 ⊢
  rw [PySem.W.dataLt_str] at h1 h2 ⊢
  exact decide_eq_true (List.lt_trans (of_decide_eq_true h1) (of_decide_eq_true h2))
theorem bel_irr : ∀ xs : List Str, bel xs xs = false
  | [] => rfl
  | x :: xs => by rw [bel, if_pos rfl]; exact bel_irr xs
theorem bel_tot : ∀ {xs ys : List Str}, xs.length = ys.length → bel xs ys = false → bel ys xs = false → xs = ys
  | [], [], _, _, _ => rfl
  | [], _ :: _, h, _, _ => by cases h
  | _ :: _, [], h, _, _ => by cases h
  | x :: xs, y :: ys, h, h1, h2 => by
    rw [bel] at h1 h2
    by_cases e : x = y
    · subst e
      rw [if_pos rfl] at h1 h2
      rw [bel_tot (by simpa using h) h1 h2]
    · rw [if_neg e] at h1
      rw [if_neg (Ne.symm e)] at h2
      have := sLt_tri h2 e
      rw [this] at h1
      cases h1
theorem bel_trans : ∀ {xs ys zs : List Str}, bel xs ys = true → bel ys zs = true → bel xs zs = true
  | [], _, _, h, _ => by cases h
  | _ :: _, [], _, h, _ => by cases h
  | _ :: _, _ :: _, [], _, h => by cases h
  | x :: xs, y :: ys, z :: zs, h1, h2 => by
    rw [bel] at h1 h2 ⊢
    by_cases e1 : x = y
    · subst e1
      rw [if_pos rfl] at h1
      by_cases e2 : x = z
      · rw [if_pos e2] at h2 ⊢
        exact bel_trans h1 h2
      · rw [if_neg e2] at h2 ⊢
        exact h2
    · rw [if_neg e1] at h1
      by_cases e2 : y = z
      · subst e2
        rw [if_neg e1]
        exact h1
      · rw [if_neg e2] at h2
        have h3 := sLt_trans h1 h2
        rw [if_neg (fun e => by rw [e, sLt_irr] at h3; cases h3)]
        exact h3
theorem bel_ge {a b c : List Str} (hab : a.length = b.length) (h1 : bel b a = false) (h2 : bel c b = false) : bel c a = false := by
  cases h : bel c a with
  | false => rfl
  | true =>
    cases h3 : bel a b with
    | true => rw [bel_trans h h3] at h2; cases h2
    | false =>
      rw [bel_tot hab h3 h1] at h
      rw [h] at h2
      cases h2
theorem bel_snoc (w : Str) : ∀ {xs ys : List Str}, xs.length = ys.length → bel (xs ++ [w]) (ys ++ [w]) = bel xs ys
  | [], [], _ => by simp [bel]
  | [], _ :: _, h => by cases h
  | _ :: _, [], h => by cases h
  | x :: xs, y :: ys, h => by
    rw [List.cons_append, List.cons_append, bel, bel, bel_snoc w (by simpa using h)]
theorem pyD_rows (zs : List Str) : pyD (.lst (zs.map D.str)) = .list (zs.map PyData.str) := by
  show PyData.list (pyDs (zs.map D.str)) = _
  rw [pyDs_map, List.map_map]
  rfl
theorem lt_bel : ∀ {xs ys : List Str}, xs.length = ys.length → PySem.W.dataLt (pyD (.lst (xs.map D.str))) (pyD (.lst (ys.map D.str))) = bel xs ys := by
  intro xs ys h
  rw [pyD_rows, pyD_rows, PySem.W.dataLt_list]
  induction xs generalizing ys with
  | nil =>
    cases ys with
    | nil => rfl
    | cons => cases h
  | cons x xs ih =>
    cases ys with
    | nil => cases h
    | cons y ys =>
      rw [bel]
      show PyProof.Rows.lexLt PyProof.Rows.itemOrd (PySem.W.keyToksAll (PyData.str x :: xs.map PyData.str)) (PySem.W.keyToksAll (PyData.str y :: ys.map PyData.str)) = _
      rw [PySem.W.dataLt_cons (by simp [PySem.W.alike])]
      by_cases e : x = y
      · rw [if_pos (by simp [PyData.eqv, e]), if_pos e]
        exact ih (by simpa using h)
      · rw [if_neg (by simp [PyData.eqv, e]), if_neg e]
def minR (x y : List Str) : List Str := if bel y x = true then y else x
/-- the least row of a kind; all of the kind have one length -/
structure Least (n : Nat) (p : List Str → Prop) (r : List Str) : Prop where
  mem : p r
  le : ∀ z, p z → bel z r = false
theorem least_or {n : Nat} {p q : List Str → Prop} {r t : List Str} (hp : ∀ z, p z → z.length = n) (hq : ∀ z, q z → z.length = n) (h1 : Least n p r) (h2 : Least n q t) : Least n (fun z => p z ∨ q z) (minR r t) := by
  have l1 := hp r h1.mem
  have l2 := hq t h2.mem
  unfold minR
  by_cases h : bel t r = true
  · rw [if_pos h]
    refine ⟨.inr h2.mem, fun z hz => ?_⟩
    rcases hz with hz | hz
    · refine bel_ge (b := r) (by omega) ?_ (h1.le z hz)
      cases h3 : bel r t with
      | false => rfl
      | true => have := bel_trans h h3; rw [bel_irr] at this; cases this
    · exact h2.le z hz
  · have h : bel t r = false := by simpa using h
    rw [if_neg (by rw [h]; decide)]
    refine ⟨.inl h1.mem, fun z hz => ?_⟩
    rcases hz with hz | hz
    · exact h1.le z hz
    · exact bel_ge (b := t) (by omega) h (h2.le z hz)
theorem least_one {n : Nat} (r : List Str) : Least n (fun z => z = r) r := ⟨rfl, fun z hz => by rw [hz]; exact bel_irr r⟩
theorem least_iff {n : Nat} {p q : List Str → Prop} {r : List Str} (h : ∀ z, p z ↔ q z) (l : Least n p r) : Least n q r := ⟨(h r).mp l.mem, fun z hz => l.le z ((h z).mpr hz)⟩
theorem least_uniq {n : Nat} {p : List Str → Prop} {r t : List Str} (hp : ∀ z, p z → z.length = n) (h1 : Least n p r) (h2 : Least n p t) : r = t := bel_tot ((hp r h1.mem).trans (hp t h2.mem).symm) (h2.le r h1.mem) (h1.le t h2.mem)
/-! ### walks -/
def goW (as : List Arr) : List Str → Int → Option Int
  | [], q => some q
  | z :: zs, q => match findA as q z with
    | some t => goW as zs t
    | none => none
theorem goW_snoc (as : List Arr) (w : Str) : ∀ (zs : List Str) (q : Int), goW as (zs ++ [w]) q = (goW as zs q).bind fun s => findA as s w
  | [], q => by
    show (match findA as q w with | some t => goW as [] t | none => none) = findA as q w
    cases findA as q w <;> rfl
  | z :: zs, q => by
    show (match findA as q z with | some t => goW as (zs ++ [w]) t | none => none) = ((match findA as q z with | some t => goW as zs t | none => none)).bind _
    cases findA as q z with
    | none => rfl
    | some t => exact goW_snoc as w zs t
/-- z leads from 0 to q, by k signs -/
def To (as : List Arr) (k : Nat) (q : Int) (z : List Str) : Prop := z.length = k ∧ goW as z 0 = some q
theorem find_some {as : List Arr} {s : Int} {w : Str} {t : Int} (h : findA as s w = some t) : (s, w, t) ∈ as := by
  unfold findA at h
  obtain ⟨a, ha, rfl⟩ := Option.map_eq_some_iff.mp h
  have h1 := List.find?_some ha
  have h1 : a.1 = s ∧ a.2.1 = w := by simpa using h1
  obtain ⟨rfl, rfl⟩ := h1
  exact List.mem_of_find?_eq_some ha
theorem find_of {as : List Arr} (hk : (as.map keyA).Nodup) {a : Arr} (ha : a ∈ as) : findA as a.1 a.2.1 = some a.2.2 := by
  unfold findA
  induction as with
  | nil => cases ha
  | cons b as ih =>
    rw [List.map_cons, List.nodup_cons] at hk
    rcases List.mem_cons.mp ha with e | h
    · subst e
      rw [List.find?_cons_of_pos (by simp)]
      rfl
    · rw [List.find?_cons_of_neg]
      · exact ih hk.2 h
      · intro e
        have e : b.1 = a.1 ∧ b.2.1 = a.2.1 := by simpa using e
        exact hk.1 (List.mem_map.mpr ⟨a, h, by unfold keyA; rw [e.1, e.2]⟩)
theorem to_zero (as : List Arr) (q : Int) (z : List Str) : To as 0 q z ↔ z = [] ∧ q = 0 := by
  constructor
  · rintro ⟨h1, h2⟩
    have e : z = [] := List.eq_nil_of_length_eq_zero h1
    subst e
    exact ⟨rfl, (Option.some.inj h2).symm⟩
  · rintro ⟨rfl, rfl⟩
    exact ⟨rfl, rfl⟩
theorem to_succ {as : List Arr} (hk : (as.map keyA).Nodup) (k : Nat) (q : Int) (z : List Str) : To as (k + 1) q z ↔ ∃ a ∈ as, a.2.2 = q ∧ ∃ y, To as k a.1 y ∧ z = y ++ [a.2.1] := by
  constructor
  · rintro ⟨h1, h2⟩
    have hne : z ≠ [] := by intro e; subst e; cases h1
    have e := (List.dropLast_concat_getLast hne).symm
    generalize z.dropLast = y at e
    generalize z.getLast hne = w at e
    subst e
    rw [goW_snoc] at h2
    obtain ⟨s, hs, hw⟩ := Option.bind_eq_some_iff.mp h2
    exact ⟨(s, w, q), find_some hw, rfl, y, ⟨by simpa using h1, hs⟩, rfl⟩
  · rintro ⟨a, ha, rfl, y, ⟨h1, h2⟩, rfl⟩
    refine ⟨by simp [h1], ?_⟩
    rw [goW_snoc, h2]
    exact find_of hk ha

/-! ### the table of the least rows -/
abbrev rowD (r : List Str) : D := .lst (r.map D.str)
structure Tab (ds : List (Key × D)) (f : Int → Option (List Str)) : Prop where
  ks : ∀ p ∈ ds, ∃ q : Int, p.1 = .inl q
  at_ : ∀ q, getK (tabK ds) (.inl q) = (f q).map fun r => S.d (rowD r)
theorem Tab.put {ds : List (Key × D)} {f : Int → Option (List Str)} (t : Tab ds f) (q : Int) (r : List Str) : Tab (putD ds (.inl q) (rowD r)) (fun z => if z = q then some r else f z) where
  ks p hp := by
    rcases putD_mem hp with h | h
    · exact ⟨q, h⟩
    · exact t.ks p h
  at_ z := by
    rw [← putKs_tab, getK_put]
    by_cases e : z = q
    · subst e
      rw [if_pos rfl, if_pos rfl]
      rfl
    · rw [if_neg (fun h => e (Sum.inl.inj h)), if_neg e]
      exact t.at_ z
theorem Tab.nil : Tab [] fun _ => none := ⟨fun p h => (by cases h), fun _ => rfl⟩
def BestF (as : List Arr) (k : Nat) (f : Int → Option (List Str)) : Prop := ∀ q, (∀ r, f q = some r → Least k (To as k q) r) ∧ (f q = none → ∀ z, ¬ To as k q z)
/-- candidates by some arrows -/
def Cand (f : Int → Option (List Str)) (bs : List Arr) (q : Int) (z : List Str) : Prop := ∃ a ∈ bs, a.2.2 = q ∧ ∃ r, f a.1 = some r ∧ z = r ++ [a.2.1]
def LatF (k : Nat) (f : Int → Option (List Str)) (bs : List Arr) (g : Int → Option (List Str)) : Prop := ∀ q, (∀ r, g q = some r → Least k (Cand f bs q) r) ∧ (g q = none → ∀ z, ¬ Cand f bs q z)
theorem best_zero (as : List Arr) : BestF as 0 fun q => if q = 0 then some [] else none := fun q => by
  by_cases e : q = 0
  · subst e
    refine ⟨fun r h => ?_, fun h => by simp at h⟩
    have h : (if (0 : Int) = 0 then some [] else none) = some r := h
    rw [if_pos rfl] at h
    cases h
    exact ⟨(to_zero _ _ _).mpr ⟨rfl, rfl⟩, fun z hz => by rw [((to_zero _ _ _).mp hz).1]; rfl⟩
  · refine ⟨fun r h => ?_, fun _ z hz => e ((to_zero _ _ _).mp hz).2⟩
    have h : (if q = 0 then some [] else none) = some r := h
    rw [if_neg e] at h
    cases h
theorem lat_nil (k : Nat) (f : Int → Option (List Str)) : LatF k f [] fun _ => none := fun q => ⟨fun r h => (by cases h), fun _ z ⟨a, ha, _⟩ => (by cases ha)⟩
theorem cand_snoc (f : Int → Option (List Str)) (bs : List Arr) (a : Arr) (q : Int) (z : List Str) : Cand f (bs ++ [a]) q z ↔ Cand f bs q z ∨ (a.2.2 = q ∧ ∃ r, f a.1 = some r ∧ z = r ++ [a.2.1]) := by
  constructor
  · rintro ⟨b, hb, h⟩
    rcases List.mem_append.mp hb with hb | hb
    · exact .inl ⟨b, hb, h⟩
    · have : b = a := by simpa using hb
      subst this
      exact .inr h
  · rintro (⟨b, hb, h⟩ | h)
    · exact ⟨b, List.mem_append_left _ hb, h⟩
    · exact ⟨a, by simp, h⟩
theorem lat_no {k : Nat} {f g : Int → Option (List Str)} {bs : List Arr} {a : Arr} (h : LatF k f bs g) (ha : f a.1 = none) : LatF k f (bs ++ [a]) g := fun q => by
  have e : ∀ z, Cand f bs q z ↔ Cand f (bs ++ [a]) q z := fun z => by
    rw [cand_snoc]
    constructor
    · exact .inl
    · rintro (h | ⟨_, r, hr, _⟩)
      · exact h
      · rw [ha] at hr; cases hr
  exact ⟨fun r hr => least_iff e ((h q).1 r hr), fun hn z hz => (h q).2 hn z ((e z).mpr hz)⟩
theorem cand_len {k : Nat} {f : Int → Option (List Str)} (hf : ∀ q r, f q = some r → r.length = k) {bs : List Arr} {q : Int} {z : List Str} (h : Cand f bs q z) : z.length = k + 1 := by
  obtain ⟨a, _, _, r, hr, rfl⟩ := h
  rw [List.length_append, hf _ r hr]
  rfl
theorem lat_yes {k : Nat} {f g : Int → Option (List Str)} {bs : List Arr} {a : Arr} {r : List Str} (hf : ∀ q r, f q = some r → r.length = k) (h : LatF (k + 1) f bs g) (ha : f a.1 = some r) : LatF (k + 1) f (bs ++ [a]) (fun z => if z = a.2.2 then some (minR ((g a.2.2).getD (r ++ [a.2.1])) (r ++ [a.2.1])) else g z) := fun q => by
  by_cases e : q = a.2.2
  · subst e
    refine ⟨fun t ht => ?_, fun hn => by simp at hn⟩
    have ht : (if a.2.2 = a.2.2 then some (minR ((g a.2.2).getD (r ++ [a.2.1])) (r ++ [a.2.1])) else g a.2.2) = some t := ht
    rw [if_pos rfl] at ht
    cases ht
    have e2 : ∀ z, (Cand f bs a.2.2 z ∨ z = r ++ [a.2.1]) ↔ Cand f (bs ++ [a]) a.2.2 z := fun z => by
      rw [cand_snoc]
      constructor
      · rintro (h | h)
        · exact .inl h
        · exact .inr ⟨rfl, r, ha, h⟩
      · rintro (h | ⟨_, r', hr', h⟩)
        · exact .inl h
        · rw [ha] at hr'; cases hr'; exact .inr h
    refine least_iff e2 ?_
    cases hg : g a.2.2 with
    | none =>
      have e3 : minR ((none : Option (List Str)).getD (r ++ [a.2.1])) (r ++ [a.2.1]) = r ++ [a.2.1] := by
        unfold minR
        split <;> rfl
      rw [e3]
      exact ⟨.inr rfl, fun z hz => by
        rcases hz with hz | hz
        · exact absurd hz ((h a.2.2).2 hg z)
        · rw [hz]; exact bel_irr _⟩
    | some t => exact least_or (n := k + 1) (fun z hz => cand_len hf hz) (fun z hz => by rw [hz, List.length_append, hf _ r ha]; rfl) ((h a.2.2).1 t hg) (least_one _)
  · have e2 : ∀ z, Cand f bs q z ↔ Cand f (bs ++ [a]) q z := fun z => by
      rw [cand_snoc]
      constructor
      · exact .inl
      · rintro (h | ⟨h, _⟩)
        · exact h
        · exact absurd h.symm e
    refine ⟨fun t ht => ?_, fun hn z hz => ?_⟩
    · have ht : (if q = a.2.2 then some (minR ((g a.2.2).getD (r ++ [a.2.1])) (r ++ [a.2.1])) else g q) = some t := ht
      rw [if_neg e] at ht
      exact least_iff e2 ((h q).1 t ht)
    · have hn : (if q = a.2.2 then some (minR ((g a.2.2).getD (r ++ [a.2.1])) (r ++ [a.2.1])) else g q) = none := hn
      rw [if_neg e] at hn
      exact (h q).2 hn z ((e2 z).mpr hz)
theorem best_len {as : List Arr} {k : Nat} {f : Int → Option (List Str)} (h : BestF as k f) : ∀ q r, f q = some r → r.length = k := fun q r e => ((h q).1 r e).mem.1
theorem best_next {as : List Arr} (hk : (as.map keyA).Nodup) {k : Nat} {f g : Int → Option (List Str)} (hb : BestF as k f) (hl : LatF (k + 1) f as g) : BestF as (k + 1) g := fun q => by
  have go : ∀ z, To as (k + 1) q z → ∃ a ∈ as, a.2.2 = q ∧ ∃ y r, To as k a.1 y ∧ z = y ++ [a.2.1] ∧ f a.1 = some r ∧ bel y r = false := fun z hz => by
    obtain ⟨a, ha, e, y, hy, ez⟩ := (to_succ hk k q z).mp hz
    cases hfa : f a.1 with
    | none => exact absurd hy ((hb a.1).2 hfa y)
    | some r => exact ⟨a, ha, e, y, r, hy, ez, hfa, ((hb a.1).1 r hfa).le y hy⟩
  refine ⟨fun r hr => ?_, fun hn z hz => ?_⟩
  · have L := (hl q).1 r hr
    refine ⟨?_, fun z hz => ?_⟩
    · obtain ⟨a, ha, e, t, ht, rfl⟩ := L.mem
      exact (to_succ hk k q _).mpr ⟨a, ha, e, t, ((hb a.1).1 t ht).mem, rfl⟩
    · obtain ⟨a, ha, e, y, t, hy, rfl, ht, hyt⟩ := go z hz
      have hc : Cand f as q (t ++ [a.2.1]) := ⟨a, ha, e, t, ht, rfl⟩
      have l1 := best_len hb _ t ht
      have l2 := hy.1
      refine bel_ge (b := t ++ [a.2.1]) ?_ (L.le _ hc) ?_
      · rw [cand_len (best_len hb) L.mem, cand_len (best_len hb) hc]
      · rw [bel_snoc _ (by omega)]
        exact hyt
  · obtain ⟨a, ha, e, y, t, hy, rfl, ht, _⟩ := go z hz
    exact (hl q).2 hn _ ⟨a, ha, e, t, ht, rfl⟩
/-! ### rows to the ends -/
def End (as : List Arr) (es : List Int) (k : Nat) (z : List Str) : Prop := ∃ q ∈ es, To as k q z
def endsR (es : List Int) (f : Int → Option (List Str)) (ds : List (Key × D)) : List (List Str) := ds.filterMap fun p => match p.1 with
  | .inl q => if q ∈ es then f q else none
  | .inr _ => none
theorem endsR_mem {es : List Int} {f : Int → Option (List Str)} {ds : List (Key × D)} (t : Tab ds f) (z : List Str) : z ∈ endsR es f ds ↔ ∃ q ∈ es, f q = some z := by
  unfold endsR
  rw [List.mem_filterMap]
  constructor
  · rintro ⟨p, hp, h⟩
    obtain ⟨q, hq⟩ := t.ks p hp
    rw [hq] at h
    by_cases e : q ∈ es
    · have h : (if q ∈ es then f q else none) = some z := h
      rw [if_pos e] at h
      exact ⟨q, e, h⟩
    · have h : (if q ∈ es then f q else none) = some z := h
      rw [if_neg e] at h
      cases h
  · rintro ⟨q, hq, h⟩
    have h1 := t.at_ q
    rw [h] at h1
    obtain ⟨d, hd, _⟩ := mem_getK h1
    exact ⟨(.inl q, d), hd, by show (if q ∈ es then f q else none) = some z; rw [if_pos hq, h]⟩
theorem fold_min {n : Nat} : ∀ (ws : List (List Str)) (w : List Str), (∀ y ∈ w :: ws, y.length = n) → ws.foldl minR w ∈ w :: ws ∧ ∀ y ∈ w :: ws, bel y (ws.foldl minR w) = false
  | [], w, _ => ⟨by simp, fun y hy => by
    have : y = w := by simpa using hy
    subst this
    exact bel_irr y⟩
  | v :: ws, w, h => by
    have lw := h w (by simp)
    have lv := h v (by simp)
    have hm : minR w v = w ∨ minR w v = v := by unfold minR; split <;> simp
    have L := least_or (n := n) (p := fun z => z = w) (q := fun z => z = v) (fun z hz => by rw [hz]; exact lw) (fun z hz => by rw [hz]; exact lv) (least_one w) (least_one v)
    have lm : (minR w v).length = n := by rcases hm with e | e <;> rw [e] <;> assumption
    obtain ⟨i1, i2⟩ := fold_min (n := n) ws (minR w v) (fun y hy => by
      rcases List.mem_cons.mp hy with e | hy
      · rw [e]; exact lm
      · exact h y (by simp [hy]))
    have hv' : ∀ y, y ∈ ws → y.length = n := fun y hy => h y (List.mem_cons_of_mem _ (List.mem_cons_of_mem _ hy))
    have i1' : (v :: ws).foldl minR w ∈ minR w v :: ws := i1
    have i2' : ∀ y ∈ minR w v :: ws, bel y ((v :: ws).foldl minR w) = false := i2
    have lf : ((v :: ws).foldl minR w).length = n := by
      rcases List.mem_cons.mp i1' with e | e
      · rw [e]; exact lm
      · exact hv' _ e
    refine ⟨?_, fun y hy => ?_⟩
    · rcases List.mem_cons.mp i1' with e | e
      · rw [e]
        rcases hm with e | e
        · rw [e]; exact List.mem_cons_self
        · rw [e]; exact List.mem_cons_of_mem _ List.mem_cons_self
      · exact List.mem_cons_of_mem _ (List.mem_cons_of_mem _ e)
    · have key : ∀ y, y = w ∨ y = v → bel y ((v :: ws).foldl minR w) = false := fun y hy => bel_ge (b := minR w v) (lf.trans lm.symm) (i2' _ List.mem_cons_self) (L.le y hy)
      rcases List.mem_cons.mp hy with e | hy
      · exact key y (.inl e)
      · rcases List.mem_cons.mp hy with e | hy
        · exact key y (.inr e)
        · exact i2' y (List.mem_cons_of_mem _ hy)
theorem ends_least {as : List Arr} {es : List Int} {k : Nat} {f : Int → Option (List Str)} {ds : List (Key × D)} (t : Tab ds f) (hb : BestF as k f) {w : List Str} {ws : List (List Str)} (h : endsR es f ds = w :: ws) : Least k (End as es k) (ws.foldl minR w) := by
  have mem := fun z => endsR_mem (es := es) t z
  rw [h] at mem
  have ln : ∀ y ∈ w :: ws, y.length = k := fun y hy => by
    obtain ⟨q, _, hq⟩ := (mem y).mp hy
    exact best_len hb q y hq
  obtain ⟨i1, i2⟩ := fold_min ws w ln
  refine ⟨?_, fun z hz => ?_⟩
  · obtain ⟨q, hq, hf⟩ := (mem _).mp i1
    exact ⟨q, hq, ((hb q).1 _ hf).mem⟩
  · obtain ⟨q, hq, hz⟩ := hz
    cases hf : f q with
    | none => exact absurd hz ((hb q).2 hf z)
    | some r =>
      have hr : r ∈ w :: ws := (mem r).mpr ⟨q, hq, hf⟩
      exact bel_ge (b := r) (by rw [ln _ i1, ln _ hr]) (i2 r hr) (((hb q).1 r hf).le z hz)
theorem ends_none {as : List Arr} {es : List Int} {k : Nat} {f : Int → Option (List Str)} {ds : List (Key × D)} (t : Tab ds f) (hb : BestF as k f) (h : endsR es f ds = []) (z : List Str) : ¬ End as es k z := by
  rintro ⟨q, hq, hz⟩
  cases hf : f q with
  | none => exact (hb q).2 hf z hz
  | some r =>
    have := (endsR_mem (es := es) t r).mpr ⟨q, hq, hf⟩
    rw [h] at this
    cases this
/-! ### how many rows, and the first one -/
theorem ind_pos (es : List Int) (q : Int) : 0 < ind es q ↔ q ∈ es := by
  unfold ind
  split <;> simp_all
theorem back_bound {as : List Arr} {g : Int → Int} {B : Int} (h0 : ∀ q, 0 ≤ g q) (h1 : ∀ q, g q ≤ B) (q : Int) : 0 ≤ back as g q ∧ back as g q ≤ as.length * B := by
  unfold back
  induction as with
  | nil => simp
  | cons a as ih =>
    have e0 := h0 a.2.2
    have e1 := h1 a.2.2
    rw [List.map_cons, List.sum_cons, List.length_cons]
    have e : ((as.length + 1 : Nat) : Int) * B = as.length * B + B := by rw [Int.natCast_add, Int.add_mul]; simp
    rw [e]
    split <;> omega
theorem bws_bound {as : List Arr} {es : List Int} (h : as.length ≤ 40) : ∀ k q, 0 ≤ bws as es k q ∧ bws as es k q ≤ 40 ^ k
  | 0, q => by
    show 0 ≤ ind es q ∧ ind es q ≤ 1
    unfold ind
    split <;> decide
  | k + 1, q => by
    obtain ⟨a, b⟩ := back_bound (as := as) (g := bws as es k) (B := 40 ^ k) (fun q => (bws_bound h k q).1) (fun q => (bws_bound h k q).2) q
    refine ⟨a, Int.le_trans b ?_⟩
    have hp : (0 : Int) ≤ 40 ^ k := Int.le_trans (bws_bound (es := es) h k q).1 (bws_bound (es := es) h k q).2
    rw [Int.pow_succ, Int.mul_comm (40 ^ k) 40]
    exact Int.mul_le_mul_of_nonneg_right (by omega) hp
theorem sum_pos {α : Type} (g : α → Int) : ∀ l : List α, (∀ a ∈ l, 0 ≤ g a) → (0 ≤ (l.map g).sum ∧ (0 < (l.map g).sum ↔ ∃ a ∈ l, 0 < g a))
  | [], _ => ⟨by simp, by simp⟩
  | a :: l, h => by
    obtain ⟨i1, i2⟩ := sum_pos g l fun b hb => h b (List.mem_cons_of_mem _ hb)
    have h0 := h a List.mem_cons_self
    rw [List.map_cons, List.sum_cons]
    refine ⟨by omega, ?_⟩
    constructor
    · intro hp
      by_cases e : 0 < g a
      · exact ⟨a, List.mem_cons_self, e⟩
      · obtain ⟨b, hb, hg⟩ := i2.mp (by omega)
        exact ⟨b, List.mem_cons_of_mem _ hb, hg⟩
    · rintro ⟨b, hb, hg⟩
      rcases List.mem_cons.mp hb with e | hb
      · subst e; omega
      · have := i2.mpr ⟨b, hb, hg⟩
        omega
theorem bws_pos {as : List Arr} {es : List Int} (hk : (as.map keyA).Nodup) (h40 : as.length ≤ 40) : ∀ k q, 0 < bws as es k q ↔ ∃ z : List Str, z.length = k ∧ ∃ e ∈ es, goW as z q = some e
  | 0, q => by
    show 0 < ind es q ↔ _
    rw [ind_pos]
    constructor
    · intro h
      exact ⟨[], rfl, q, h, rfl⟩
    · rintro ⟨z, hz, e, he, h⟩
      have : z = [] := List.eq_nil_of_length_eq_zero hz
      subst this
      cases h
      exact he
  | k + 1, q => by
    show 0 < back as (bws as es k) q ↔ _
    unfold back
    rw [(sum_pos (fun a : Arr => if a.1 = q then bws as es k a.2.2 else 0) as fun a _ => by
      show 0 ≤ if a.1 = q then bws as es k a.2.2 else 0
      have := (bws_bound (es := es) h40 k a.2.2).1
      split <;> omega).2]
    constructor
    · rintro ⟨a, ha, h⟩
      by_cases e : a.1 = q
      · have h : 0 < if a.1 = q then bws as es k a.2.2 else 0 := h
        rw [if_pos e] at h
        obtain ⟨z, hz, t, ht, hg⟩ := (bws_pos hk h40 k a.2.2).mp h
        refine ⟨a.2.1 :: z, by simp [hz], t, ht, ?_⟩
        show (match findA as q a.2.1 with | some t => goW as z t | none => none) = _
        rw [← e, find_of hk ha]
        exact hg
      · have h : 0 < if a.1 = q then bws as es k a.2.2 else 0 := h
        rw [if_neg e] at h
        omega
    · rintro ⟨z, hz, t, ht, hg⟩
      cases z with
      | nil => cases hz
      | cons w z =>
        have hg : (match findA as q w with | some t => goW as z t | none => none) = some t := hg
        cases hf : findA as q w with
        | none => rw [hf] at hg; cases hg
        | some u =>
          rw [hf] at hg
          refine ⟨(q, w, u), find_some hf, ?_⟩
          show 0 < if q = q then bws as es k u else 0
          rw [if_pos rfl]
          exact (bws_pos hk h40 k u).mpr ⟨z, by simpa using hz, t, ht, hg⟩
theorem end_iff {as : List Arr} {es : List Int} {k : Nat} {z : List Str} : End as es k z ↔ z.length = k ∧ ∃ e ∈ es, goW as z 0 = some e := by
  constructor
  · rintro ⟨q, hq, h1, h2⟩
    exact ⟨h1, q, hq, h2⟩
  · rintro ⟨h1, q, hq, h2⟩
    exact ⟨q, hq, h1, h2⟩
theorem end_pos {as : List Arr} {es : List Int} (hk : (as.map keyA).Nodup) (h40 : as.length ≤ 40) (k : Nat) : 0 < bws as es k 0 ↔ ∃ z, End as es k z := by
  rw [bws_pos hk h40]
  constructor
  · rintro ⟨z, h⟩; exact ⟨z, end_iff.mpr h⟩
  · rintro ⟨z, h⟩; exact ⟨z, end_iff.mp h⟩
theorem takeA_first {g : Int → Int} : ∀ {bs : List Arr} {a : Arr} {q : Int}, (∀ b ∈ bs, 0 ≤ g b.2.2) → bs.Pairwise (fun a b => sLt a.2.1 b.2.1 = true) → takeA g bs 0 = some (a, q) → q = 0 ∧ ∀ b ∈ bs, 0 < g b.2.2 → b = a ∨ sLt a.2.1 b.2.1 = true
  | [], _, _, _, _, h => by cases h
  | c :: bs, a, q, hg, hp, h => by
    rw [List.pairwise_cons] at hp
    have h0 := hg c List.mem_cons_self
    by_cases hc : g c.2.2 ≤ 0
    · have e : takeA g (c :: bs) 0 = takeA g bs (0 - g c.2.2) := by
        show (if g c.2.2 ≤ 0 then _ else _) = _
        rw [if_pos hc]
      rw [e, show (0 : Int) - g c.2.2 = 0 by omega] at h
      obtain ⟨i1, i2⟩ := takeA_first (fun b hb => hg b (List.mem_cons_of_mem _ hb)) hp.2 h
      refine ⟨i1, fun b hb hpos => ?_⟩
      rcases List.mem_cons.mp hb with e | hb
      · subst e; omega
      · exact i2 b hb hpos
    · have e : takeA g (c :: bs) 0 = some (c, 0) := by
        show (if g c.2.2 ≤ 0 then _ else _) = _
        rw [if_neg hc]
      rw [e] at h
      cases h
      refine ⟨rfl, fun b hb _ => ?_⟩
      rcases List.mem_cons.mp hb with e | hb
      · exact .inl e
      · exact .inr (hp.1 b hb)
theorem bel_app : ∀ {xs ys : List Str} (us vs : List Str), bel xs ys = true → bel (xs ++ us) (ys ++ vs) = true
  | [], _, _, _, h => by cases h
  | _ :: _, [], _, _, h => by cases h
  | x :: xs, y :: ys, us, vs, h => by
    rw [bel] at h
    rw [List.cons_append, List.cons_append, bel]
    by_cases e : x = y
    · rw [if_pos e] at h ⊢
      exact bel_app us vs h
    · rw [if_neg e] at h ⊢
      exact h
theorem bel_last {x y : Str} (h : sLt x y = true) : ∀ l : List Str, bel (l ++ [x]) (l ++ [y]) = true
  | [] => by
    show bel [x] [y] = true
    rw [bel, if_neg (fun e => by rw [e, sLt_irr] at h; cases h)]
    exact h
  | z :: l => by
    rw [List.cons_append, List.cons_append, bel, if_pos rfl]
    exact bel_last h l
theorem goW_app (as : List Arr) (ys : List Str) : ∀ (xs : List Str) (q : Int), goW as (xs ++ ys) q = (goW as xs q).bind (goW as ys)
  | [], _ => rfl
  | x :: xs, q => by
    show (match findA as q x with | some t => goW as (xs ++ ys) t | none => none) = (match findA as q x with | some t => goW as xs t | none => none).bind _
    cases findA as q x with
    | none => rfl
    | some t => exact goW_app as ys xs t
theorem run_first {m : Int} {as : List Arr} {es : List Int} (ok : MachOk m as es) {n : Nat} (h : 0 < bws as es n 0) : ∀ j, j ≤ n → (runR as es n 0 j).2.2 = 0 ∧ goW as (runR as es n 0 j).1 0 = some (runR as es n 0 j).2.1 ∧ ∀ z, End as es n z → (z.take j = (runR as es n 0 j).1 ∧ ∃ e ∈ es, goW as (z.drop j) (runR as es n 0 j).2.1 = some e) ∨ bel (runR as es n 0 j).1 (z.take j) = true
  | 0, _ => ⟨rfl, rfl, fun z hz => .inl ⟨rfl, (end_iff.mp hz).2⟩⟩
  | j + 1, hj => by
    obtain ⟨i1, i2, i3⟩ := run_first ok h j (by omega)
    obtain ⟨a, q, et, ha, ha1, er⟩ := runR_step ok (Int.le_refl 0) h (j := j) (by omega)
    rw [i1] at et
    obtain ⟨q0, first⟩ := takeA_first (fun b _ => (bws_bound (es := es) ok.ar.ln _ _).1) (outA_pw ok.ar.nd _) et
    subst q0
    rw [er]
    refine ⟨rfl, ?_, fun z hz => ?_⟩
    · show goW as ((runR as es n 0 j).1 ++ [a.2.1]) 0 = some a.2.2
      rw [goW_snoc, i2, ← ha1]
      exact find_of ok.ar.nd ha
    · have hl := (end_iff.mp hz).1
      have hlt : j < z.length := by omega
      have htk : z.take (j + 1) = z.take j ++ [z[j]] := by rw [List.take_succ, List.getElem?_eq_getElem hlt]; rfl
      have hdr : z.drop j = z[j] :: z.drop (j + 1) := List.drop_eq_getElem_cons hlt
      generalize z[j] = w at htk hdr
      rw [htk]
      rcases i3 z hz with ⟨e1, t, ht, hg⟩ | hb
      · rw [hdr] at hg
        have hg : (match findA as (runR as es n 0 j).2.1 w with | some t => goW as (z.drop (j + 1)) t | none => none) = some t := hg
        cases hf : findA as (runR as es n 0 j).2.1 w with
        | none => rw [hf] at hg; cases hg
        | some u =>
          rw [hf] at hg
          have hm := find_some hf
          have hpos : 0 < bws as es (n - 1 - j) u := (bws_pos ok.ar.nd ok.ar.ln _ _).mpr ⟨z.drop (j + 1), by rw [List.length_drop]; omega, t, ht, hg⟩
          have hmo : ((runR as es n 0 j).2.1, w, u) ∈ outA (sortA as) (runR as es n 0 j).2.1 := List.mem_filter.mpr ⟨(sortA_perm as).mem_iff.mpr hm, by simp⟩
          rcases first _ hmo hpos with e | hlt
          · subst e
            exact .inl ⟨by rw [e1], t, ht, hg⟩
          · right
            rw [e1]
            exact bel_last hlt _
      · exact .inr (bel_app _ _ hb)
theorem rowAt_least {m : Int} {as : List Arr} {es : List Int} (ok : MachOk m as es) {n : Nat} (h : 0 < bws as es n 0) : Least n (End as es n) (rowAt as es n 0) := by
  obtain ⟨i1, i2, i3⟩ := run_first ok h n (Nat.le_refl n)
  have hl := rowAt_len ok (Int.le_refl 0) h
  have he := (rowAt_end ok (Int.le_refl 0) h).1
  refine ⟨end_iff.mpr ⟨hl, _, he, i2⟩, fun z hz => ?_⟩
  have lz := (end_iff.mp hz).1
  rw [show rowAt as es n 0 = (runR as es n 0 n).1 from rfl]
  rcases i3 z hz with ⟨e, _⟩ | hb
  · rw [List.take_of_length_le (by omega)] at e
    rw [e]
    exact bel_irr _
  · rw [List.take_of_length_le (by omega)] at hb
    cases h2 : bel z (runR as es n 0 n).1 with
    | false => rfl
    | true =>
      have := bel_trans hb h2
      rw [bel_irr] at this
      cases this
/-! ### a shortest row has fewer signs than there are states -/
theorem pigeon : ∀ (m : Nat) (f : Nat → Nat), (∀ i, i ≤ m → f i < m) → ∃ i j, i < j ∧ j ≤ m ∧ f i = f j
  | 0, f, h => absurd (h 0 (Nat.le_refl 0)) (by omega)
  | m + 1, f, h => by
    by_cases e : ∃ i, i ≤ m ∧ f i = f (m + 1)
    · obtain ⟨i, hi, e⟩ := e
      exact ⟨i, m + 1, by omega, Nat.le_refl _, e⟩
    · have hne : ∀ i, i ≤ m → f i ≠ f (m + 1) := fun i hi h => e ⟨i, hi, h⟩
      have hl := h (m + 1) (Nat.le_refl _)
      obtain ⟨i, j, hij, hj, eg⟩ := pigeon m (fun i => if f i < f (m + 1) then f i else f i - 1) (fun i hi => by
        have h1 := h i (by omega)
        have h2 := hne i hi
        show (if f i < f (m + 1) then f i else f i - 1) < m
        split <;> omega)
      refine ⟨i, j, hij, by omega, ?_⟩
      have h1 := hne i (by omega)
      have h2 := hne j hj
      have eg : (if f i < f (m + 1) then f i else f i - 1) = if f j < f (m + 1) then f j else f j - 1 := eg
      split at eg <;> split at eg <;> omega
theorem goW_tgt {m : Int} {as : List Arr} (ok : ArrsOk m as) (hm : 1 ≤ m) : ∀ (z : List Str) (q e : Int), 0 ≤ q → q < m → goW as z q = some e → 0 ≤ e ∧ e < m
  | [], q, e, h0, h1, h => by cases h; exact ⟨h0, h1⟩
  | w :: z, q, e, h0, h1, h => by
    have h : (match findA as q w with | some t => goW as z t | none => none) = some e := h
    cases hf : findA as q w with
    | none => rw [hf] at h; cases h
    | some t =>
      rw [hf] at h
      obtain ⟨t0, t1⟩ := ok.tg _ (find_some hf)
      exact goW_tgt ok hm z t e t0 t1 h
theorem goW_pre {as : List Arr} {z : List Str} {q e : Int} (h : goW as z q = some e) (i : Nat) : ∃ s, goW as (z.take i) q = some s ∧ goW as (z.drop i) s = some e := by
  have h1 := goW_app as (z.drop i) (z.take i) q
  rw [List.take_append_drop, h] at h1
  obtain ⟨s, hs, h2⟩ := Option.bind_eq_some_iff.mp h1.symm
  exact ⟨s, hs, h2⟩
theorem short_end {m : Int} {as : List Arr} {es : List Int} (ok : MachOk m as es) : ∀ (d n : Nat), n ≤ d → (∃ z, End as es n z) → ∃ k : Nat, (k : Int) < m ∧ k ≤ n ∧ ∃ z, End as es k z
  | d, n, hd, hz => by
    by_cases hn : (n : Int) < m
    · exact ⟨n, hn, Nat.le_refl n, hz⟩
    · obtain ⟨z, hz⟩ := hz
      obtain ⟨hl, e, he, hg⟩ := end_iff.mp hz
      have hm := ok.n1
      have st : ∀ i, ∃ s : Nat, (i ≤ m.toNat → s < m.toNat) ∧ goW as (z.take i) 0 = some (s : Int) ∧ goW as (z.drop i) (s : Int) = some e := fun i => by
        obtain ⟨s, h1, h2⟩ := goW_pre hg i
        obtain ⟨s0, s1⟩ := goW_tgt ok.ar hm _ _ _ (Int.le_refl 0) (by omega) h1
        refine ⟨s.toNat, fun _ => by omega, ?_, ?_⟩
        · rw [h1, Int.toNat_of_nonneg s0]
        · rw [Int.toNat_of_nonneg s0]; exact h2
      obtain ⟨i, j, hij, hj, ef⟩ := pigeon m.toNat (fun i => Classical.choose (st i)) (fun i hi => (Classical.choose_spec (st i)).1 hi)
      have hi2 := (Classical.choose_spec (st i)).2.1
      have hj2 := (Classical.choose_spec (st j)).2.2
      have ef : Classical.choose (st i) = Classical.choose (st j) := ef
      rw [← ef] at hj2
      generalize Classical.choose (st i) = s at hi2 hj2
      have hlen : (z.take i ++ z.drop j).length = n - (j - i) := by
        rw [List.length_append, List.length_take, List.length_drop]
        omega
      have h2 : End as es (n - (j - i)) (z.take i ++ z.drop j) := end_iff.mpr ⟨hlen, e, he, by rw [goW_app, hi2]; exact hj2⟩
      match d, hd with
      | 0, hd => omega
      | d + 1, hd =>
        obtain ⟨k, k1, k2, k3⟩ := short_end ok d (n - (j - i)) (by omega) ⟨_, h2⟩
        exact ⟨k, k1, by omega, k3⟩
theorem none_end {m : Int} {as : List Arr} {es : List Int} (ok : MachOk m as es) (h : ∀ L : Nat, (L : Int) < m → ¬ 0 < bws as es L 0) (n : Nat) : ¬ 0 < bws as es n 0 := by
  rw [end_pos ok.ar.nd ok.ar.ln]
  intro hz
  obtain ⟨k, k1, _, k3⟩ := short_end ok n n (Nat.le_refl n) hz
  exact h k k1 ((end_pos ok.ar.nd ok.ar.ln k).mpr k3)

end
end T
end

section
set_option Elab.async false
set_option linter.all false
set_option maxRecDepth 100000
set_option maxHeartbeats 2000000
open PySem PySem.Spec PyProof.Rows L2 DL

local macro_rules | `(tactic| walk_at "vis") => `(tactic| first | exact Or.inl rfl | exact Or.inr (Or.inl rfl) | exact Or.inr (Or.inr rfl))
local macro_rules | `(tactic| walk_at "loc") => `(tactic| first | exact Or.inl rfl | exact Or.inr rfl)
local macro_rules | `(tactic| walk_at "side") => `(tactic| first | assumption | omega | decide)
local macro_rules | `(tactic| walk_at "callB") => `(tactic| first
  | ((with_reducible show DE _ _ (Expr.Call (Expr.Name (Str.ofString "len") _) _ _ _) _ _ _); refine de_callB (id := "len") rfl (by assumption) (by decide +kernel) (by decide) (by decide) rfl rfl ?_)
  | ((with_reducible show DE _ _ (Expr.Call (Expr.Name (Str.ofString "max") _) _ _ _) _ _ _); refine de_callB (id := "max") rfl (by assumption) (by decide +kernel) (by decide) (by decide) rfl rfl ?_)
  | ((with_reducible show DE _ _ (Expr.Call (Expr.Name (Str.ofString "min") _) _ _ _) _ _ _); refine de_callB (id := "min") rfl (by assumption) (by decide +kernel) (by decide) (by decide) rfl rfl ?_)
  | ((with_reducible show DE _ _ (Expr.Call (Expr.Name (Str.ofString "abs") _) _ _ _) _ _ _); refine de_callB (id := "abs") rfl (by assumption) (by decide +kernel) (by decide) (by decide) rfl rfl ?_)
  | ((with_reducible show DE _ _ (Expr.Call (Expr.Name (Str.ofString "repr") _) _ _ _) _ _ _); refine de_callB (id := "repr") rfl (by assumption) (by decide +kernel) (by decide) (by decide) rfl rfl ?_)
  | ((with_reducible show DE _ _ (Expr.Call (Expr.Name (Str.ofString "isinstance") _) _ _ _) _ _ _); refine de_callB (id := "isinstance") rfl (by assumption) (by decide +kernel) (by decide) (by decide) rfl rfl ?_)
  | ((with_reducible show DE _ _ (Expr.Call (Expr.Name (Str.ofString "sorted") _) _ _ _) _ _ _); refine de_callB (id := "sorted") rfl (by assumption) (by decide +kernel) (by decide) (by decide) rfl rfl ?_)
  | ((with_reducible show DE _ _ (Expr.Call (Expr.Name (Str.ofString "all") _) _ _ _) _ _ _); refine de_callB (id := "all") rfl (by assumption) (by decide +kernel) (by decide) (by decide) rfl rfl ?_)
  | ((with_reducible show DE _ _ (Expr.Call (Expr.Name (Str.ofString "any") _) _ _ _) _ _ _); refine de_callB (id := "any") rfl (by assumption) (by decide +kernel) (by decide) (by decide) rfl rfl ?_)
  | ((with_reducible show DE _ _ (Expr.Call (Expr.Name (Str.ofString "sum") _) _ _ _) _ _ _); refine de_callB (id := "sum") rfl (by assumption) (by decide +kernel) (by decide) (by decide) rfl rfl ?_)
  | ((with_reducible show DE _ _ (Expr.Call (Expr.Name (Str.ofString "int") _) _ _ _) _ _ _); refine de_callTy (T := "int") rfl (by assumption) (by decide +kernel) (by decide) (by decide) rfl rfl ?_)
  | ((with_reducible show DE _ _ (Expr.Call (Expr.Name (Str.ofString "tuple") _) _ _ _) _ _ _); refine de_callTy (T := "tuple") rfl (by assumption) (by decide +kernel) (by decide) (by decide) rfl rfl ?_)
  | ((with_reducible show DE _ _ (Expr.Call (Expr.Name (Str.ofString "list") _) _ _ _) _ _ _); refine de_callTy (T := "list") rfl (by assumption) (by decide +kernel) (by decide) (by decide) rfl rfl ?_)
  | ((with_reducible show DE _ _ (Expr.Call (Expr.Name (Str.ofString "set") _) _ _ _) _ _ _); refine de_callTy (T := "set") rfl (by assumption) (by decide +kernel) (by decide) (by decide) rfl rfl ?_)
  | ((with_reducible show DE _ _ (Expr.Call (Expr.Name (Str.ofString "str") _) _ _ _) _ _ _); refine de_callTy (T := "str") rfl (by assumption) (by decide +kernel) (by decide) (by decide) rfl rfl ?_))
local macro_rules | `(tactic| walk_at "own") => `(tactic| refine de_own (by assumption) (by assumption) (by assumption) (by decide) rfl (by decide) rfl rfl ?_)
local macro_rules | `(tactic| walk_at "bname") => `(tactic| first
  | ((with_reducible show DE _ _ (Expr.Name (Str.ofString "LETTERS") _) _ _ _); refine de_glob (v := .str abc) rfl (by assumption) ⟨_, rfl⟩ (fun _ => .str _) ?_ (by decide))
  | ((with_reducible show DE _ _ (Expr.Name (Str.ofString "LONGEST_WORD") _) _ _ _); refine de_glob (v := .int 8) rfl (by assumption) ⟨_, rfl⟩ (fun _ => .int _) ?_ (by decide))
  | ((with_reducible show DE _ _ (Expr.Name (Str.ofString "MOST_STATES") _) _ _ _); refine de_glob (v := .int 5) rfl (by assumption) ⟨_, rfl⟩ (fun _ => .int _) ?_ (by decide))
  | ((with_reducible show DE _ _ (Expr.Name (Str.ofString "MOST_ARROWS") _) _ _ _); refine de_glob (v := .int 40) rfl (by assumption) ⟨_, rfl⟩ (fun _ => .int _) ?_ (by decide))
  | ((with_reducible show DE _ _ (Expr.Name (Str.ofString "int") _) _ _ _); refine de_bltn (v := .ty "int") rfl (by assumption) (by decide +kernel) rfl ?_ (by decide) (by decide))
  | ((with_reducible show DE _ _ (Expr.Name (Str.ofString "bool") _) _ _ _); refine de_bltn (v := .ty "bool") rfl (by assumption) (by decide +kernel) rfl ?_ (by decide) (by decide))
  | ((with_reducible show DE _ _ (Expr.Name (Str.ofString "str") _) _ _ _); refine de_bltn (v := .ty "str") rfl (by assumption) (by decide +kernel) rfl ?_ (by decide) (by decide))
  | ((with_reducible show DE _ _ (Expr.Name (Str.ofString "tuple") _) _ _ _); refine de_bltn (v := .ty "tuple") rfl (by assumption) (by decide +kernel) rfl ?_ (by decide) (by decide))
  | ((with_reducible show DE _ _ (Expr.Name (Str.ofString "list") _) _ _ _); refine de_bltn (v := .ty "list") rfl (by assumption) (by decide +kernel) rfl ?_ (by decide) (by decide)))
local macro_rules | `(tactic| walk_at "E") => `(tactic| ((with_reducible show DE _ _ _ _ _ _); first
  | ((with_reducible show DE _ _ (Expr.Name _ _) _ _ _); first | walk_at "name" | walk_at "bname")
  | refine de_int ?_ | refine de_str ?_ | refine de_bl ?_ | refine de_non ?_
  | ((with_reducible show DE _ _ (Expr.Subscript _ (Expr.Tuple _ _ _) _) _ _ _); refine de_dget (by assumption) ?_ (fun _ _ => rfl))
  | ((with_reducible show DE _ _ (Expr.Subscript _ (Expr.Slice _ _ _ _) _) _ _ _); first | refine de_revS ?_ | refine de_slice ?_)
  | refine de_ix ?_ (fun _ _ => rfl)
  | refine de_bin ?_ | refine de_cmp ?_ (by first | exact nomark _ | rfl) | refine de_chain ?_ rfl
  | refine de_one ?_ | refine de_neg ?_ | refine de_and ?_ | refine de_or ?_ | refine de_not ?_ | refine de_if ?_
  | refine de_tup ?_ | refine de_lstP (es := []) ?_ | refine de_lst ?_
  | ((with_reducible show DE _ _ (Expr.Call (Expr.Name _ _) _ _ _) _ _ _); first | walk_at "callB" | walk_at "own")
  | ((with_reducible show DE _ _ (Expr.Call (Expr.Attribute _ (Str.ofString "append") _) _ _ _) _ _ _); refine de_append ?_ rfl rfl rfl rfl rfl)
  | ((with_reducible show DE _ _ (Expr.Call (Expr.Attribute _ (Str.ofString "insert") _) _ _ _) _ _ _); refine de_insert ?_ rfl rfl rfl rfl rfl rfl)))
local macro_rules | `(tactic| walk_at "T") => `(tactic| ((with_reducible show DT _ _ _ _ _ _); first
  | ((with_reducible show DT _ _ (Expr.Compare (Expr.Tuple _ _ _) [CmpOp.In] _ _) _ _ _); refine dt_din (by assumption) ?_ rfl)
  | refine dt_cmp ?_ (by first | exact nomark _ | rfl) | refine dt_chain ?_ rfl | refine dt_not ?_ | refine dt_w (dw_and ?_) | refine dt_w (dw_or ?_) | refine dt_val ?_ (fun _ => rfl)))
local macro_rules | `(tactic| walk_at "W") => `(tactic| ((with_reducible show DW _ _ _ _ _ _); first
  | refine dw_and ?_ | refine dw_or ?_ | refine dw_and1 ?_ | refine dw_or1 ?_))
local macro_rules | `(tactic| walk_at "A") => `(tactic| ((with_reducible show DA _ _ _ _ _ _); first | refine da_nil ?_ | refine da_cons ?_ rfl))
local macro_rules | `(tactic| walk_at "O") => `(tactic| ((with_reducible show BD _ _ _ _ _ _ _ _); first
  | ((with_reducible show BD _ _ (binaryOp Operator.Add) (S.d (D.int _)) (S.d (D.int _)) _ _ _); refine bd_add ?_)
  | ((with_reducible show BD _ _ (binaryOp Operator.Add) (S.d (D.str _)) (S.d (D.str _)) _ _ _); refine bd_addS ?_ ?_)
  | ((with_reducible show BD _ _ (binaryOp Operator.Sub) (S.d (D.int _)) (S.d (D.int _)) _ _ _); refine bd_sub ?_)
  | ((with_reducible show BD _ _ (binaryOp Operator.Mod) (S.d (D.int _)) (S.d (D.int _)) _ _ _); refine bd_mod (by walk_at "side") ?_)
  | ((with_reducible show BD _ _ (binaryOp Operator.Mult) (S.d (D.int _)) (S.d (D.int _)) _ _ _); refine bd_mul ?_ ?_)
  | ((with_reducible show BD _ _ (binaryOp Operator.FloorDiv) (S.d (D.int _)) (S.d (D.int _)) _ _ _); refine bd_fdivW ?_ ?_)
  | ((with_reducible show BD _ _ (binaryOp Operator.Pow) (S.d (D.int _)) (S.d (D.int _)) _ _ _); refine bd_pow ?_ ?_)
  | ((with_reducible show BD _ _ (compareOp CmpOp.Lt) (S.d (D.int _)) (S.d (D.int _)) _ _ _); refine bd_lt ?_)
  | ((with_reducible show BD _ _ (compareOp CmpOp.LtE) (S.d (D.int _)) (S.d (D.int _)) _ _ _); refine bd_le ?_)
  | ((with_reducible show BD _ _ (compareOp CmpOp.Gt) (S.d (D.int _)) (S.d (D.int _)) _ _ _); refine bd_gt ?_)
  | ((with_reducible show BD _ _ (compareOp CmpOp.GtE) (S.d (D.int _)) (S.d (D.int _)) _ _ _); refine bd_ge ?_)
  | ((with_reducible show BD _ _ (compareOp CmpOp.Eq) (S.d (D.int _)) (S.d (D.int _)) _ _ _); refine bd_eqI ?_)
  | ((with_reducible show BD _ _ (compareOp CmpOp.NotEq) (S.d (D.int _)) (S.d (D.int _)) _ _ _); refine bd_neI ?_)
  | ((with_reducible show BD _ _ (compareOp CmpOp.Eq) (S.d (D.str _)) (S.d (D.str _)) _ _ _); refine bd_eqS ?_)
  | ((with_reducible show BD _ _ (compareOp CmpOp.NotEq) (S.d (D.str _)) (S.d (D.str _)) _ _ _); refine bd_neS ?_)
  | ((with_reducible show BD _ _ (compareOp CmpOp.Is) _ (S.d D.non) _ _ _); refine bd_isN (by first | (intro y h; cases h) | assumption) ?_)
  | ((with_reducible show BD _ _ (compareOp CmpOp.IsNot) _ (S.d D.non) _ _ _); refine bd_notN (by first | (intro y h; cases h) | assumption) ?_)))
local macro_rules | `(tactic| walk_at "C") => `(tactic| ((with_reducible show CD _ _ _ _ _ _ _); first
  | ((with_reducible show CD _ _ (Value.type "int") _ _ _ _); refine cd_int ?_)
  | ((with_reducible show CD _ _ (Value.builtin "abs") _ _ _ _); refine cd_abs ?_)
  | ((with_reducible show CD _ _ (Value.builtin "max") _ _ _ _); refine cd_max2 rfl ?_)
  | ((with_reducible show CD _ _ (Value.builtin "min") _ _ _ _); refine cd_min2 rfl ?_)
  | ((with_reducible show CD _ _ (Value.builtin "isinstance") _ _ _ _); refine cd_isiK (by first | rfl | assumption) (by first | decide | exact tyD_six (by assumption)) (by decide) (by decide) ?_)
  | ((with_reducible show CD _ _ (Value.builtin "len") _ _ _ _); first | refine cd_lenT ?_ | refine cd_lenS ?_ ?_ | refine cd_lenP rfl ?_ | refine cd_lenL rfl ?_)
  | ((with_reducible show CD _ _ (Value.type "tuple") _ _ _ _); first | refine cd_tupleT ?_ | refine cd_tuple rfl ?_)))
local macro_rules | `(tactic| walk_at "I") => `(tactic| ((with_reducible show ID _ _ _ _ _ _ _); first
  | refine id_lstP rfl rfl ?_ | refine id_tup rfl ?_ | refine id_lst rfl rfl ?_ | refine id_str ?_ ?_ ?_))
local macro_rules | `(tactic| walk_at "S") => `(tactic| ((with_reducible show DS _ _ _ _ _ _); first
  | ((with_reducible show DS _ _ (Stmt.Assign [Expr.Name _ _] _ _) _ _ _); walk_at "set")
  | refine ds_ret ?_ | refine ds_retN ?_ | refine ds_if ?_ | refine ds_expr ?_ rfl | refine ds_pass ?_ | refine ds_break ?_ | refine ds_continue ?_
  | ((with_reducible show DS _ _ (Stmt.Assign [Expr.Attribute _ _ _] _ _) _ _ _); refine ds_fld ?_ rfl)
  | ((with_reducible show DS _ _ (Stmt.Assign [Expr.Subscript _ (Expr.Tuple _ _ _) _] _ _) _ _ _); refine ds_dput (by assumption) ?_ rfl)
  | ((with_reducible show DS _ _ (Stmt.Assign [Expr.Subscript _ _ _] _ _) _ _ _); refine ds_setL ?_ (fun _ => rfl) rfl rfl rfl) | refine ds_asg ?_ rfl rfl rfl))
local macro_rules | `(tactic| walk_at "B") => `(tactic| ((with_reducible show DB _ _ _ _ _ _); first | refine db_cons ?_ | refine db_nil ?_))
local macro_rules | `(tactic| walk_at "G") => `(tactic| first
  | ((with_reducible show DG _ _ _ _ _ _ _); first | walk_at "gname" | refine dg_tup rfl rfl rfl rfl ?_)
  | ((with_reducible show DGs _ _ _ _ _ _ _); first | refine dgs_nil ?_ | refine dgs_cons ?_ rfl))
local macro_rules | `(tactic| walk_at "X") => `(tactic| first
  | ((with_reducible show ∃ n ss j i, S.p _ = S.p n ∧ _ ∧ _ ∧ _ ∧ _); refine ⟨_, _, _, _, rfl, rfl, rfl, rfl, ?_⟩)
  | ((with_reducible show ∃ n ss, S.p _ = S.p n ∧ _ ∧ _); refine ⟨_, _, rfl, rfl, ?_⟩)
  | ((with_reducible show ∃ n, S.d (D.int _) = S.d (D.int n) ∧ _ ∧ _ ∧ _); refine ⟨_, rfl, ?_, ?_, ?_⟩)
  | ((with_reducible show ∃ b, S.d (D.bl _) = S.d (D.bl b) ∧ _); refine ⟨_, rfl, ?_⟩)
  | ((with_reducible show ∃ b, S.d (D.int _) = S.d (D.int b) ∧ _); refine ⟨_, rfl, ?_⟩))
local macro_rules | `(tactic| walk_at "L") => `(tactic| ((with_reducible show LD _ _ _ _ _ _ _ _); first
  | ((with_reducible show LD _ _ (S.d (D.tup _)) _ _ _ _ _); refine ld_tup ?_)))
local macro_rules | `(tactic| walk_at "D") => `(tactic| ((with_reducible show DO _ _ _ _ _ _); first | refine do_none ?_ | refine do_some ?_))
local macro_rules | `(tactic| walk_at "step") => `(tactic| first | walk_at "E" | walk_at "O" | walk_at "I" | walk_at "A" | walk_at "C" | walk_at "B" | walk_at "S" | walk_at "T" | walk_at "W" | walk_at "G" | walk_at "D" | walk_at "L" | walk_at "X")
local macro_rules | `(tactic| walk_at "go") => `(tactic| repeat walk_at "step")
local macro_rules | `(tactic| walk_at "goE") => `(tactic| repeat (first | walk_at "E" | walk_at "O" | walk_at "I" | walk_at "A" | walk_at "C" | walk_at "T" | walk_at "W" | walk_at "G" | walk_at "D" | walk_at "L" | walk_at "X"))

namespace T
set_option pp.deepTerms false
set_option pp.deepTerms.threshold 3
section
variable {P : Program} {w : World} {K : PySem.W.Frag} {mg : Str → Option Value} {base : Heap}


def sdSR (C : Addr) : Sd := fun ss cs Q => ∃ (m : Int) (as : List Arr) (es : List Int), ss = [.d (.ins C (mach m as es))] ∧ MachOk m as es ∧ cs = [] ∧
  (∀ L : Nat, (L : Int) < m → 0 < bws as es L 0 → (∀ L' : Nat, L' < L → ¬ 0 < bws as es L' 0) → Q (.new (.lst (((rowAt as es L 0).map D.str).map S.d))) []) ∧ ((∀ L : Nat, (L : Int) < m → ¬ 0 < bws as es L 0) → Q (.d .non) [])

abbrev sSR : Stmt := top 22
theorem scSR : FnScope ["machine", "length"] ["machine"] (defScope sSR) := ⟨rfl, rfl, rfl, by decide +kernel, rfl, by decide +kernel, by decide +kernel⟩
section
local macro_rules | `(tactic| walk_at "name") => `(tactic| first
  | ((with_reducible show DE _ _ (Expr.Name (Str.ofString "machine") _) _ _ _); refine de_name (i := 0) rfl (by walk_at "vis") rfl ?_ (by decide) (by decide))
  | ((with_reducible show DE _ _ (Expr.Name (Str.ofString "length") _) _ _ _); refine de_name (i := 1) rfl (by walk_at "vis") rfl ?_ (by decide) (by decide)))
local macro_rules | `(tactic| walk_at "set") => `(tactic| first
  | ((with_reducible show DS _ _ (Stmt.Assign [Expr.Name (Str.ofString "machine") _] _ _) _ _ _); refine ds_set (i := 0) ?_ (by assumption) rfl (by walk_at "loc") rfl (by walk_at "loc"))
  | ((with_reducible show DS _ _ (Stmt.Assign [Expr.Name (Str.ofString "length") _] _ _) _ _ _); refine ds_set (i := 1) ?_ (by assumption) rfl (by walk_at "loc") rfl (by walk_at "loc")))
local macro_rules | `(tactic| walk_at "gname") => `(tactic| first
  | ((with_reducible show DG _ _ (Expr.Name (Str.ofString "machine") _) _ _ _ _); refine dg_name (i := 0) (by assumption) rfl (by walk_at "loc") (by walk_at "loc") ?_)
  | ((with_reducible show DG _ _ (Expr.Name (Str.ofString "length") _) _ _ _ _); refine dg_name (i := 1) (by assumption) rfl (by walk_at "loc") (by walk_at "loc") ?_))

theorem ok_SR {C : Addr} {f : Addr} {fd : FuncData} (FF : Fun K "shortest_row" "shortest_row" sSR f fd) (cl : Cls K C) (m1 : mg "range" = none) (c1 : Cal P w K mg base 3 "rows_count" ["machine", "length"] (sdRC C)) (c2 : Cal P w K mg base 3 "row_at" ["machine", "length", "number"] (sdAt C)) (e2 : MeC P w K mg base C 1 "size" (sdG C fun n as es => .d (.int n))) : FnG P w K mg base CX0 4 f fd ["machine"] (spOf K 1 (sdSR C)) := by
  have nd := scSR.nd
  refine fn_ok FF scSR ?_
  intro cdv A outer s H E F ss cs Q hr hgu hsd hl hθ
  obtain ⟨m, as, es, rfl, ok, rfl, k1, k2⟩ := hsd
  have hm1 := ok.n1
  have hm5 := ok.n5
  have h40 := ok.ar.ln
  walk_at "go"
  refine ds_forR PassesOwn.never rfl rfl m1 (fun _ => rfl) rfl ?_
  refine de_mC cl e2 hr hgu (by decide) rfl ?_
  walk_at "goE"
  refine ⟨_, rfl, rfl, spd0' rfl rfl ⟨m, as, es, rfl, h40, rfl, got_d ?_⟩⟩
  walk_at "goE"
  any_goals omega
  refine ⟨fun L ρ M => ∃ x1 : Option S, ρ = [some (.d (.ins C (mach m as es))), x1] ∧ M = [] ∧ ∀ L' : Nat, L' < L → ¬ 0 < bws as es L' 0, ⟨_, rfl, rfl, fun L' h => absurd h (Nat.not_lt_zero _)⟩, ?_, ?_⟩
  · rintro L ρ' M' hL ⟨x1, rfl, rfl, hno⟩
    walk_at "gname"
    refine db_cons ?_
    walk_at "S"
    walk_at "goE"
    refine spd0' rfl rfl ⟨m, as, es, _, rfl, ok, by omega, by omega, rfl, got_d ?_⟩
    rw [Int.toNat_natCast]
    walk_at "goE"
    refine ⟨fun h => ?_, fun h => ?_⟩
    · have h : 0 < bws as es L 0 := of_decide_eq_true h
      walk_at "go"
      refine spd0' rfl rfl ⟨m, as, es, _, 0, rfl, ok, by omega, by omega, Int.le_refl 0, by rw [Int.toNat_natCast]; exact h, rfl, got_new ?_⟩
      rw [Int.toNat_natCast]
      exact rets_p rfl (Nat.le_refl _) rfl (by simp [DL.C.flat, flatS]) (k1 L hL h hno)
    · have h : ¬ 0 < bws as es L 0 := of_decide_eq_false h
      refine db_nil (db_nil ⟨_, rfl, rfl, fun L' hL' => ?_⟩)
      by_cases e : L' = L
      · rw [e]; exact h
      · exact hno L' (by omega)
  · rintro ρ' M' ⟨x1, rfl, rfl, hno⟩
    walk_at "go"
    exact rets_d rfl (k2 fun L hL => hno L (by omega))

end
end
end T
end

section
set_option Elab.async false
set_option linter.all false
set_option maxRecDepth 100000
set_option maxHeartbeats 2000000
open PySem PySem.Spec PyProof.Rows L2 DL

local macro_rules | `(tactic| walk_at "vis") => `(tactic| first | exact Or.inl rfl | exact Or.inr (Or.inl rfl) | exact Or.inr (Or.inr rfl))
local macro_rules | `(tactic| walk_at "loc") => `(tactic| first | exact Or.inl rfl | exact Or.inr rfl)
local macro_rules | `(tactic| walk_at "side") => `(tactic| first | assumption | omega | decide)
local macro_rules | `(tactic| walk_at "callB") => `(tactic| first
  | ((with_reducible show DE _ _ (Expr.Call (Expr.Name (Str.ofString "len") _) _ _ _) _ _ _); refine de_callB (id := "len") rfl (by assumption) (by decide +kernel) (by decide) (by decide) rfl rfl ?_)
  | ((with_reducible show DE _ _ (Expr.Call (Expr.Name (Str.ofString "max") _) _ _ _) _ _ _); refine de_callB (id := "max") rfl (by assumption) (by decide +kernel) (by decide) (by decide) rfl rfl ?_)
  | ((with_reducible show DE _ _ (Expr.Call (Expr.Name (Str.ofString "min") _) _ _ _) _ _ _); refine de_callB (id := "min") rfl (by assumption) (by decide +kernel) (by decide) (by decide) rfl rfl ?_)
  | ((with_reducible show DE _ _ (Expr.Call (Expr.Name (Str.ofString "abs") _) _ _ _) _ _ _); refine de_callB (id := "abs") rfl (by assumption) (by decide +kernel) (by decide) (by decide) rfl rfl ?_)
  | ((with_reducible show DE _ _ (Expr.Call (Expr.Name (Str.ofString "repr") _) _ _ _) _ _ _); refine de_callB (id := "repr") rfl (by assumption) (by decide +kernel) (by decide) (by decide) rfl rfl ?_)
  | ((with_reducible show DE _ _ (Expr.Call (Expr.Name (Str.ofString "isinstance") _) _ _ _) _ _ _); refine de_callB (id := "isinstance") rfl (by assumption) (by decide +kernel) (by decide) (by decide) rfl rfl ?_)
  | ((with_reducible show DE _ _ (Expr.Call (Expr.Name (Str.ofString "sorted") _) _ _ _) _ _ _); refine de_callB (id := "sorted") rfl (by assumption) (by decide +kernel) (by decide) (by decide) rfl rfl ?_)
  | ((with_reducible show DE _ _ (Expr.Call (Expr.Name (Str.ofString "all") _) _ _ _) _ _ _); refine de_callB (id := "all") rfl (by assumption) (by decide +kernel) (by decide) (by decide) rfl rfl ?_)
  | ((with_reducible show DE _ _ (Expr.Call (Expr.Name (Str.ofString "any") _) _ _ _) _ _ _); refine de_callB (id := "any") rfl (by assumption) (by decide +kernel) (by decide) (by decide) rfl rfl ?_)
  | ((with_reducible show DE _ _ (Expr.Call (Expr.Name (Str.ofString "sum") _) _ _ _) _ _ _); refine de_callB (id := "sum") rfl (by assumption) (by decide +kernel) (by decide) (by decide) rfl rfl ?_)
  | ((with_reducible show DE _ _ (Expr.Call (Expr.Name (Str.ofString "int") _) _ _ _) _ _ _); refine de_callTy (T := "int") rfl (by assumption) (by decide +kernel) (by decide) (by decide) rfl rfl ?_)
  | ((with_reducible show DE _ _ (Expr.Call (Expr.Name (Str.ofString "tuple") _) _ _ _) _ _ _); refine de_callTy (T := "tuple") rfl (by assumption) (by decide +kernel) (by decide) (by decide) rfl rfl ?_)
  | ((with_reducible show DE _ _ (Expr.Call (Expr.Name (Str.ofString "list") _) _ _ _) _ _ _); refine de_callTy (T := "list") rfl (by assumption) (by decide +kernel) (by decide) (by decide) rfl rfl ?_)
  | ((with_reducible show DE _ _ (Expr.Call (Expr.Name (Str.ofString "set") _) _ _ _) _ _ _); refine de_callTy (T := "set") rfl (by assumption) (by decide +kernel) (by decide) (by decide) rfl rfl ?_)
  | ((with_reducible show DE _ _ (Expr.Call (Expr.Name (Str.ofString "str") _) _ _ _) _ _ _); refine de_callTy (T := "str") rfl (by assumption) (by decide +kernel) (by decide) (by decide) rfl rfl ?_))
local macro_rules | `(tactic| walk_at "own") => `(tactic| refine de_own (by assumption) (by assumption) (by assumption) (by decide) rfl (by decide) rfl rfl ?_)
local macro_rules | `(tactic| walk_at "bname") => `(tactic| first
  | ((with_reducible show DE _ _ (Expr.Name (Str.ofString "LETTERS") _) _ _ _); refine de_glob (v := .str abc) rfl (by assumption) ⟨_, rfl⟩ (fun _ => .str _) ?_ (by decide))
  | ((with_reducible show DE _ _ (Expr.Name (Str.ofString "LONGEST_WORD") _) _ _ _); refine de_glob (v := .int 8) rfl (by assumption) ⟨_, rfl⟩ (fun _ => .int _) ?_ (by decide))
  | ((with_reducible show DE _ _ (Expr.Name (Str.ofString "MOST_STATES") _) _ _ _); refine de_glob (v := .int 5) rfl (by assumption) ⟨_, rfl⟩ (fun _ => .int _) ?_ (by decide))
  | ((with_reducible show DE _ _ (Expr.Name (Str.ofString "MOST_ARROWS") _) _ _ _); refine de_glob (v := .int 40) rfl (by assumption) ⟨_, rfl⟩ (fun _ => .int _) ?_ (by decide))
  | ((with_reducible show DE _ _ (Expr.Name (Str.ofString "int") _) _ _ _); refine de_bltn (v := .ty "int") rfl (by assumption) (by decide +kernel) rfl ?_ (by decide) (by decide))
  | ((with_reducible show DE _ _ (Expr.Name (Str.ofString "bool") _) _ _ _); refine de_bltn (v := .ty "bool") rfl (by assumption) (by decide +kernel) rfl ?_ (by decide) (by decide))
  | ((with_reducible show DE _ _ (Expr.Name (Str.ofString "str") _) _ _ _); refine de_bltn (v := .ty "str") rfl (by assumption) (by decide +kernel) rfl ?_ (by decide) (by decide))
  | ((with_reducible show DE _ _ (Expr.Name (Str.ofString "tuple") _) _ _ _); refine de_bltn (v := .ty "tuple") rfl (by assumption) (by decide +kernel) rfl ?_ (by decide) (by decide))
  | ((with_reducible show DE _ _ (Expr.Name (Str.ofString "list") _) _ _ _); refine de_bltn (v := .ty "list") rfl (by assumption) (by decide +kernel) rfl ?_ (by decide) (by decide)))
local macro_rules | `(tactic| walk_at "E") => `(tactic| ((with_reducible show DE _ _ _ _ _ _); first
  | ((with_reducible show DE _ _ (Expr.Name _ _) _ _ _); first | walk_at "name" | walk_at "bname")
  | refine de_int ?_ | refine de_str ?_ | refine de_bl ?_ | refine de_non ?_
  | ((with_reducible show DE _ _ (Expr.Subscript _ (Expr.Tuple _ _ _) _) _ _ _); refine de_dget (by assumption) ?_ (fun _ _ => rfl))
  | ((with_reducible show DE _ _ (Expr.Subscript _ (Expr.Slice _ _ _ _) _) _ _ _); first | refine de_revS ?_ | refine de_slice ?_)
  | refine de_ix ?_ (fun _ _ => rfl)
  | refine de_bin ?_ | refine de_cmp ?_ (by first | exact nomark _ | rfl) | refine de_chain ?_ rfl
  | refine de_one ?_ | refine de_neg ?_ | refine de_and ?_ | refine de_or ?_ | refine de_not ?_ | refine de_if ?_
  | refine de_tup ?_ | refine de_lstP (es := []) ?_ | refine de_lst ?_
  | ((with_reducible show DE _ _ (Expr.Call (Expr.Name _ _) _ _ _) _ _ _); first | walk_at "callB" | walk_at "own")
  | ((with_reducible show DE _ _ (Expr.Call (Expr.Attribute _ (Str.ofString "append") _) _ _ _) _ _ _); refine de_append ?_ rfl rfl rfl rfl rfl)
  | ((with_reducible show DE _ _ (Expr.Call (Expr.Attribute _ (Str.ofString "insert") _) _ _ _) _ _ _); refine de_insert ?_ rfl rfl rfl rfl rfl rfl)))
local macro_rules | `(tactic| walk_at "T") => `(tactic| ((with_reducible show DT _ _ _ _ _ _); first
  | ((with_reducible show DT _ _ (Expr.Compare (Expr.Tuple _ _ _) [CmpOp.In] _ _) _ _ _); refine dt_din (by assumption) ?_ rfl)
  | refine dt_cmp ?_ (by first | exact nomark _ | rfl) | refine dt_chain ?_ rfl | refine dt_not ?_ | refine dt_w (dw_and ?_) | refine dt_w (dw_or ?_) | refine dt_val ?_ (fun _ => rfl)))
local macro_rules | `(tactic| walk_at "W") => `(tactic| ((with_reducible show DW _ _ _ _ _ _); first
  | refine dw_and ?_ | refine dw_or ?_ | refine dw_and1 ?_ | refine dw_or1 ?_))
local macro_rules | `(tactic| walk_at "A") => `(tactic| ((with_reducible show DA _ _ _ _ _ _); first | refine da_nil ?_ | refine da_cons ?_ rfl))
local macro_rules | `(tactic| walk_at "O") => `(tactic| ((with_reducible show BD _ _ _ _ _ _ _ _); first
  | ((with_reducible show BD _ _ (binaryOp Operator.Add) (S.d (D.int _)) (S.d (D.int _)) _ _ _); refine bd_add ?_)
  | ((with_reducible show BD _ _ (binaryOp Operator.Add) (S.d (D.str _)) (S.d (D.str _)) _ _ _); refine bd_addS ?_ ?_)
  | ((with_reducible show BD _ _ (binaryOp Operator.Sub) (S.d (D.int _)) (S.d (D.int _)) _ _ _); refine bd_sub ?_)
  | ((with_reducible show BD _ _ (binaryOp Operator.Mod) (S.d (D.int _)) (S.d (D.int _)) _ _ _); refine bd_mod (by walk_at "side") ?_)
  | ((with_reducible show BD _ _ (binaryOp Operator.Mult) (S.d (D.int _)) (S.d (D.int _)) _ _ _); refine bd_mul ?_ ?_)
  | ((with_reducible show BD _ _ (binaryOp Operator.FloorDiv) (S.d (D.int _)) (S.d (D.int _)) _ _ _); refine bd_fdivW ?_ ?_)
  | ((with_reducible show BD _ _ (binaryOp Operator.Pow) (S.d (D.int _)) (S.d (D.int _)) _ _ _); refine bd_pow ?_ ?_)
  | ((with_reducible show BD _ _ (compareOp CmpOp.Lt) (S.d (D.int _)) (S.d (D.int _)) _ _ _); refine bd_lt ?_)
  | ((with_reducible show BD _ _ (compareOp CmpOp.LtE) (S.d (D.int _)) (S.d (D.int _)) _ _ _); refine bd_le ?_)
  | ((with_reducible show BD _ _ (compareOp CmpOp.Gt) (S.d (D.int _)) (S.d (D.int _)) _ _ _); refine bd_gt ?_)
  | ((with_reducible show BD _ _ (compareOp CmpOp.GtE) (S.d (D.int _)) (S.d (D.int _)) _ _ _); refine bd_ge ?_)
  | ((with_reducible show BD _ _ (compareOp CmpOp.Eq) (S.d (D.int _)) (S.d (D.int _)) _ _ _); refine bd_eqI ?_)
  | ((with_reducible show BD _ _ (compareOp CmpOp.NotEq) (S.d (D.int _)) (S.d (D.int _)) _ _ _); refine bd_neI ?_)
  | ((with_reducible show BD _ _ (compareOp CmpOp.Eq) (S.d (D.str _)) (S.d (D.str _)) _ _ _); refine bd_eqS ?_)
  | ((with_reducible show BD _ _ (compareOp CmpOp.NotEq) (S.d (D.str _)) (S.d (D.str _)) _ _ _); refine bd_neS ?_)
  | ((with_reducible show BD _ _ (compareOp CmpOp.Is) _ (S.d D.non) _ _ _); refine bd_isN (by first | (intro y h; cases h) | assumption) ?_)
  | ((with_reducible show BD _ _ (compareOp CmpOp.IsNot) _ (S.d D.non) _ _ _); refine bd_notN (by first | (intro y h; cases h) | assumption) ?_)))
local macro_rules | `(tactic| walk_at "C") => `(tactic| ((with_reducible show CD _ _ _ _ _ _ _); first
  | ((with_reducible show CD _ _ (Value.type "int") _ _ _ _); refine cd_int ?_)
  | ((with_reducible show CD _ _ (Value.builtin "abs") _ _ _ _); refine cd_abs ?_)
  | ((with_reducible show CD _ _ (Value.builtin "max") _ _ _ _); refine cd_max2 rfl ?_)
  | ((with_reducible show CD _ _ (Value.builtin "min") _ _ _ _); refine cd_min2 rfl ?_)
  | ((with_reducible show CD _ _ (Value.builtin "isinstance") _ _ _ _); refine cd_isiK (by first | rfl | assumption) (by first | decide | exact tyD_six (by assumption)) (by decide) (by decide) ?_)
  | ((with_reducible show CD _ _ (Value.builtin "len") _ _ _ _); first | refine cd_lenT ?_ | refine cd_lenS ?_ ?_ | refine cd_lenP rfl ?_ | refine cd_lenL rfl ?_)
  | ((with_reducible show CD _ _ (Value.type "tuple") _ _ _ _); first | refine cd_tupleT ?_ | refine cd_tuple rfl ?_)))
local macro_rules | `(tactic| walk_at "I") => `(tactic| ((with_reducible show ID _ _ _ _ _ _ _); first
  | refine id_lstP rfl rfl ?_ | refine id_tup rfl ?_ | refine id_lst rfl rfl ?_ | refine id_str ?_ ?_ ?_))
local macro_rules | `(tactic| walk_at "S") => `(tactic| ((with_reducible show DS _ _ _ _ _ _); first
  | ((with_reducible show DS _ _ (Stmt.Assign [Expr.Name _ _] _ _) _ _ _); walk_at "set")
  | refine ds_ret ?_ | refine ds_retN ?_ | refine ds_if ?_ | refine ds_expr ?_ rfl | refine ds_pass ?_ | refine ds_break ?_ | refine ds_continue ?_
  | ((with_reducible show DS _ _ (Stmt.Assign [Expr.Attribute _ _ _] _ _) _ _ _); refine ds_fld ?_ rfl)
  | ((with_reducible show DS _ _ (Stmt.Assign [Expr.Subscript _ (Expr.Tuple _ _ _) _] _ _) _ _ _); refine ds_dput (by assumption) ?_ rfl)
  | ((with_reducible show DS _ _ (Stmt.Assign [Expr.Subscript _ _ _] _ _) _ _ _); refine ds_setL ?_ (fun _ => rfl) rfl rfl rfl) | refine ds_asg ?_ rfl rfl rfl))
local macro_rules | `(tactic| walk_at "B") => `(tactic| ((with_reducible show DB _ _ _ _ _ _); first | refine db_cons ?_ | refine db_nil ?_))
local macro_rules | `(tactic| walk_at "G") => `(tactic| first
  | ((with_reducible show DG _ _ _ _ _ _ _); first | walk_at "gname" | refine dg_tup rfl rfl rfl rfl ?_)
  | ((with_reducible show DGs _ _ _ _ _ _ _); first | refine dgs_nil ?_ | refine dgs_cons ?_ rfl))
local macro_rules | `(tactic| walk_at "X") => `(tactic| first
  | ((with_reducible show ∃ n ss j i, S.p _ = S.p n ∧ _ ∧ _ ∧ _ ∧ _); refine ⟨_, _, _, _, rfl, rfl, rfl, rfl, ?_⟩)
  | ((with_reducible show ∃ n ss, S.p _ = S.p n ∧ _ ∧ _); refine ⟨_, _, rfl, rfl, ?_⟩)
  | ((with_reducible show ∃ n, S.d (D.int _) = S.d (D.int n) ∧ _ ∧ _ ∧ _); refine ⟨_, rfl, ?_, ?_, ?_⟩)
  | ((with_reducible show ∃ b, S.d (D.bl _) = S.d (D.bl b) ∧ _); refine ⟨_, rfl, ?_⟩)
  | ((with_reducible show ∃ b, S.d (D.int _) = S.d (D.int b) ∧ _); refine ⟨_, rfl, ?_⟩))
local macro_rules | `(tactic| walk_at "L") => `(tactic| ((with_reducible show LD _ _ _ _ _ _ _ _); first
  | ((with_reducible show LD _ _ (S.d (D.tup _)) _ _ _ _ _); refine ld_tup ?_)))
local macro_rules | `(tactic| walk_at "D") => `(tactic| ((with_reducible show DO _ _ _ _ _ _); first | refine do_none ?_ | refine do_some ?_))
local macro_rules | `(tactic| walk_at "step") => `(tactic| first | walk_at "E" | walk_at "O" | walk_at "I" | walk_at "A" | walk_at "C" | walk_at "B" | walk_at "S" | walk_at "T" | walk_at "W" | walk_at "G" | walk_at "D" | walk_at "L" | walk_at "X")
local macro_rules | `(tactic| walk_at "go") => `(tactic| repeat walk_at "step")
local macro_rules | `(tactic| walk_at "goE") => `(tactic| repeat (first | walk_at "E" | walk_at "O" | walk_at "I" | walk_at "A" | walk_at "C" | walk_at "T" | walk_at "W" | walk_at "G" | walk_at "D" | walk_at "L" | walk_at "X"))

namespace T
set_option pp.deepTerms false
set_option pp.deepTerms.threshold 3
section
variable {P : Program} {w : World} {K : PySem.W.Frag} {mg : Str → Option Value} {base : Heap}


abbrev planD (m : Int) (as : List Arr) (es : List Int) : D := .tup [.int m, .tup (as.map arD), .tup (es.map D.int)]
def sdLe : Sd := fun ss cs Q => ∃ (m : Int) (as : List Arr) (es : List Int), ss = [.d (planD m as es)] ∧ MachOk m as es ∧ cs = [] ∧
  (∀ L : Nat, (L : Int) < m → 0 < bws as es L 0 → (∀ L' : Nat, L' < L → ¬ 0 < bws as es L' 0) → Q (.d (rowD (rowAt as es L 0))) []) ∧ ((∀ L : Nat, (L : Int) < m → ¬ 0 < bws as es L 0) → Q (.d .non) [])
theorem goW_words {m : Int} {as : List Arr} (ok : ArrsOk m as) : ∀ (z : List Str) (q e : Int), goW as z q = some e → ∀ w ∈ z, wordB w = true
  | [], _, _, _, w, hw => by cases hw
  | x :: z, q, e, h, w, hw => by
    have h : (match findA as q x with | some t => goW as z t | none => none) = some e := h
    cases hf : findA as q x with
    | none => rw [hf] at h; cases h
    | some t =>
      rw [hf] at h
      rcases List.mem_cons.mp hw with e1 | hw
      · subst e1
        exact ok.wd _ (find_some hf)
      · exact goW_words ok z t e h w hw
theorem best_words {m : Int} {as : List Arr} (ok : ArrsOk m as) {k : Nat} {f : Int → Option (List Str)} (hb : BestF as k f) : ∀ q r, f q = some r → ∀ w ∈ r, wordB w = true := fun q r h => goW_words ok r 0 q ((hb q).1 r h).mem.2
theorem word_low {z : Str} (h : wordB z = true) : lowB z = true := by
  unfold wordB at h
  simp only [Bool.and_eq_true] at h
  exact h.2
theorem okD_row (r : List Str) : okD (rowD r) = true := by
  show okDs (r.map D.str) = true
  rw [okDs_all]
  simp [okD]
theorem okDs_rows : ∀ ws : List (List Str), okDs (ws.map rowD) = true := fun ws => by
  rw [okDs_all, List.all_map, List.all_eq_true]
  intro r _
  exact okD_row r
theorem row_shaped {r : List Str} (h : ∀ w ∈ r, wordB w = true) : SeqAt.shaped (pyD (rowD r)) = true := low_shaped fun z hz => word_low (h z hz)
theorem row_depth (r : List Str) : (pyD (rowD r)).depth ≤ 1 := by
  have d1 := depth_map D.str 0 (xs := r) fun z _ => by simp [pyD, PyData.depth]
  show (PyData.list (pyDs (r.map D.str))).depth ≤ 1
  rw [PyData.depth]
  omega
theorem rows_depth (ws : List (List Str)) : PyData.depthAll (pyDs (ws.map rowD)) ≤ 1 := depth_map rowD 1 fun r _ => row_depth r
theorem rows_shaped {ws : List (List Str)} (h : ∀ r ∈ ws, ∀ w ∈ r, wordB w = true) : SeqAt.shaped (pyD (.lst (ws.map rowD))) = true := by
  have c : PyData.canLayAll0 (pyDs (ws.map rowD)) = true := by
    induction ws with
    | nil => simp [pyDs, PyData.canLayAll0]
    | cons r ws ih =>
      rw [List.map_cons, pyDs, PyData.canLayAll0, ih fun r m => h r (List.mem_cons_of_mem _ m), Bool.and_true]
      exact SeqAt.canLay_of_shaped (row_shaped (h r List.mem_cons_self))
  have d := rows_depth ws
  unfold SeqAt.shaped
  rw [pyD, PyData.canLay0, c, PyData.depth, Bool.true_and]
  exact decide_eq_true (by omega)
theorem alike_row : ∀ x y : List Str, PySem.W.alike (pyD (rowD x)) (pyD (rowD y)) = true := fun x y => by
  rw [pyD_rows, pyD_rows, PySem.W.alike]
  induction x generalizing y with
  | nil => simp [PySem.W.alikeAll]
  | cons a x ih =>
    cases y with
    | nil => simp [PySem.W.alikeAll]
    | cons b y => rw [List.map_cons, List.map_cons, PySem.W.alikeAll, ih y]; rfl
theorem alike_rows (ws : List (List Str)) : PySem.W.AlikeAll (pyDs (ws.map rowD)) := by
  rw [pyDs_map, List.map_map]
  refine ⟨fun x hx y hy => ?_, fun x hx h => ?_⟩
  · obtain ⟨r, _, rfl⟩ := List.mem_map.mp hx
    obtain ⟨t, _, rfl⟩ := List.mem_map.mp hy
    exact alike_row r t
  · obtain ⟨r, _, rfl⟩ := List.mem_map.mp hx
    have h : pyD (rowD r) = .none := h
    rw [pyD_rows] at h
    cases h
theorem row_inj {x y : List Str} (h : pyD (rowD x) = pyD (rowD y)) : x = y := by
  rw [pyD_rows, pyD_rows] at h
  injection h with h
  induction x generalizing y with
  | nil =>
    cases y with
    | nil => rfl
    | cons => cases h
  | cons a x ih =>
    cases y with
    | nil => cases h
    | cons b y =>
      rw [List.map_cons, List.map_cons] at h
      injection h with h1 h2
      injection h1 with h1
      rw [h1, ih h2]
theorem min_rows {n : Nat} : ∀ (ws : List (List Str)) (w : List Str), (∀ y ∈ w :: ws, y.length = n) → PySem.W.minD (pyD (rowD w)) (pyDs (ws.map rowD)) = pyD (rowD (ws.foldl minR w))
  | [], w, _ => rfl
  | v :: ws, w, h => by
    have lw := h w (by simp)
    have lv := h v (by simp)
    have e : (if PySem.W.dataLt (pyD (rowD v)) (pyD (rowD w)) = true then pyD (rowD v) else pyD (rowD w)) = pyD (rowD (minR w v)) := by
      rw [lt_bel (lv.trans lw.symm)]
      unfold minR
      split <;> rfl
    show PySem.W.minD (if PySem.W.dataLt (pyD (rowD v)) (pyD (rowD w)) = true then pyD (rowD v) else pyD (rowD w)) (pyDs (ws.map rowD)) = _
    rw [e]
    refine min_rows (n := n) ws (minR w v) fun y hy => ?_
    rcases List.mem_cons.mp hy with e | hy
    · subst e
      unfold minR
      split <;> assumption
    · exact h y (by simp [hy])
theorem fd_snoc {M : Mem} (h : M.all DL.C.fd = true) {c : DL.C} (hc : c.fd = true) : (M ++ [c]).all DL.C.fd = true := by
  rw [List.all_append, h]
  simp [hc]
theorem at_snoc {α : Type} (M : List α) (c : α) : (M ++ [c])[M.length]? = some c := by
  rw [List.getElem?_append_right (Nat.le_refl _)]
  simp
theorem set_snoc {α : Type} (M : List α) (c d : α) : (M ++ [c]).set M.length d = M ++ [d] := by
  rw [List.set_append_right _ _ (Nat.le_refl _)]
  simp

abbrev sLe : Stmt := top 38
theorem scLe : FnScope ["plan", "best", "k", "walks", "spot", "later", "word", "goal", "walk"] ["plan"] (defScope sLe) := ⟨rfl, rfl, rfl, by decide +kernel, rfl, by decide +kernel, by decide +kernel⟩
section
local macro_rules | `(tactic| walk_at "name") => `(tactic| first
  | ((with_reducible show DE _ _ (Expr.Name (Str.ofString "plan") _) _ _ _); refine de_name (i := 0) rfl (by walk_at "vis") rfl ?_ (by decide) (by decide))
  | ((with_reducible show DE _ _ (Expr.Name (Str.ofString "best") _) _ _ _); refine de_name (i := 1) rfl (by walk_at "vis") rfl ?_ (by decide) (by decide))
  | ((with_reducible show DE _ _ (Expr.Name (Str.ofString "k") _) _ _ _); refine de_name (i := 2) rfl (by walk_at "vis") rfl ?_ (by decide) (by decide))
  | ((with_reducible show DE _ _ (Expr.Name (Str.ofString "walks") _) _ _ _); refine de_name (i := 3) rfl (by walk_at "vis") rfl ?_ (by decide) (by decide))
  | ((with_reducible show DE _ _ (Expr.Name (Str.ofString "spot") _) _ _ _); refine de_name (i := 4) rfl (by walk_at "vis") rfl ?_ (by decide) (by decide))
  | ((with_reducible show DE _ _ (Expr.Name (Str.ofString "later") _) _ _ _); refine de_name (i := 5) rfl (by walk_at "vis") rfl ?_ (by decide) (by decide))
  | ((with_reducible show DE _ _ (Expr.Name (Str.ofString "word") _) _ _ _); refine de_name (i := 6) rfl (by walk_at "vis") rfl ?_ (by decide) (by decide))
  | ((with_reducible show DE _ _ (Expr.Name (Str.ofString "goal") _) _ _ _); refine de_name (i := 7) rfl (by walk_at "vis") rfl ?_ (by decide) (by decide))
  | ((with_reducible show DE _ _ (Expr.Name (Str.ofString "walk") _) _ _ _); refine de_name (i := 8) rfl (by walk_at "vis") rfl ?_ (by decide) (by decide)))
local macro_rules | `(tactic| walk_at "set") => `(tactic| first
  | ((with_reducible show DS _ _ (Stmt.Assign [Expr.Name (Str.ofString "plan") _] _ _) _ _ _); refine ds_set (i := 0) ?_ (by assumption) rfl (by walk_at "loc") rfl (by walk_at "loc"))
  | ((with_reducible show DS _ _ (Stmt.Assign [Expr.Name (Str.ofString "best") _] _ _) _ _ _); refine ds_set (i := 1) ?_ (by assumption) rfl (by walk_at "loc") rfl (by walk_at "loc"))
  | ((with_reducible show DS _ _ (Stmt.Assign [Expr.Name (Str.ofString "k") _] _ _) _ _ _); refine ds_set (i := 2) ?_ (by assumption) rfl (by walk_at "loc") rfl (by walk_at "loc"))
  | ((with_reducible show DS _ _ (Stmt.Assign [Expr.Name (Str.ofString "walks") _] _ _) _ _ _); refine ds_set (i := 3) ?_ (by assumption) rfl (by walk_at "loc") rfl (by walk_at "loc"))
  | ((with_reducible show DS _ _ (Stmt.Assign [Expr.Name (Str.ofString "spot") _] _ _) _ _ _); refine ds_set (i := 4) ?_ (by assumption) rfl (by walk_at "loc") rfl (by walk_at "loc"))
  | ((with_reducible show DS _ _ (Stmt.Assign [Expr.Name (Str.ofString "later") _] _ _) _ _ _); refine ds_set (i := 5) ?_ (by assumption) rfl (by walk_at "loc") rfl (by walk_at "loc"))
  | ((with_reducible show DS _ _ (Stmt.Assign [Expr.Name (Str.ofString "word") _] _ _) _ _ _); refine ds_set (i := 6) ?_ (by assumption) rfl (by walk_at "loc") rfl (by walk_at "loc"))
  | ((with_reducible show DS _ _ (Stmt.Assign [Expr.Name (Str.ofString "goal") _] _ _) _ _ _); refine ds_set (i := 7) ?_ (by assumption) rfl (by walk_at "loc") rfl (by walk_at "loc"))
  | ((with_reducible show DS _ _ (Stmt.Assign [Expr.Name (Str.ofString "walk") _] _ _) _ _ _); refine ds_set (i := 8) ?_ (by assumption) rfl (by walk_at "loc") rfl (by walk_at "loc")))
local macro_rules | `(tactic| walk_at "gname") => `(tactic| first
  | ((with_reducible show DG _ _ (Expr.Name (Str.ofString "plan") _) _ _ _ _); refine dg_name (i := 0) (by assumption) rfl (by walk_at "loc") (by walk_at "loc") ?_)
  | ((with_reducible show DG _ _ (Expr.Name (Str.ofString "best") _) _ _ _ _); refine dg_name (i := 1) (by assumption) rfl (by walk_at "loc") (by walk_at "loc") ?_)
  | ((with_reducible show DG _ _ (Expr.Name (Str.ofString "k") _) _ _ _ _); refine dg_name (i := 2) (by assumption) rfl (by walk_at "loc") (by walk_at "loc") ?_)
  | ((with_reducible show DG _ _ (Expr.Name (Str.ofString "walks") _) _ _ _ _); refine dg_name (i := 3) (by assumption) rfl (by walk_at "loc") (by walk_at "loc") ?_)
  | ((with_reducible show DG _ _ (Expr.Name (Str.ofString "spot") _) _ _ _ _); refine dg_name (i := 4) (by assumption) rfl (by walk_at "loc") (by walk_at "loc") ?_)
  | ((with_reducible show DG _ _ (Expr.Name (Str.ofString "later") _) _ _ _ _); refine dg_name (i := 5) (by assumption) rfl (by walk_at "loc") (by walk_at "loc") ?_)
  | ((with_reducible show DG _ _ (Expr.Name (Str.ofString "word") _) _ _ _ _); refine dg_name (i := 6) (by assumption) rfl (by walk_at "loc") (by walk_at "loc") ?_)
  | ((with_reducible show DG _ _ (Expr.Name (Str.ofString "goal") _) _ _ _ _); refine dg_name (i := 7) (by assumption) rfl (by walk_at "loc") (by walk_at "loc") ?_)
  | ((with_reducible show DG _ _ (Expr.Name (Str.ofString "walk") _) _ _ _ _); refine dg_name (i := 8) (by assumption) rfl (by walk_at "loc") (by walk_at "loc") ?_))

local macro_rules | `(tactic| walk_at "E") => `(tactic| ((with_reducible show DE _ _ (Expr.List [] _) _ _ _); refine de_lst (da_nil ⟨[], rfl, Nat.zero_le _, ?_⟩)))
theorem ok_Le {f : Addr} {fd : FuncData} (FF : Fun K "_law_least" "_law_least" sLe f fd) (m1 : mg "range" = none) (m2 : mg "min" = none) : FnG P w K mg base CX0 1 f fd ["plan"] (spOf K 1 sdLe) := by
  have nd := scLe.nd
  refine fn_ok FF scLe ?_
  intro cdv A outer s H E F ss cs Q hr hgu hsd hl hθ
  obtain ⟨m, as, es, rfl, ok, rfl, k1, k2⟩ := hsd
  have hu := units64 hr
  have hu1 := units1 hr
  have hm1 := ok.n1
  have hm5 := ok.n5
  have h40 := ok.ar.ln
  have hn : ∀ n : Nat, F.θ0.length ≤ n := fun n => by rw [hθ]; exact Nat.zero_le n
  refine db_cons ?_
  walk_at "S"
  refine de_kdisp1 ?_
  walk_at "goE"
  refine ⟨.inl 0, rfl, rfl, ?_⟩
  have e0 : (([] : Mem) ++ [DL.C.dK []]).set 0 (DL.C.dK [((.inl 0 : Key), S.d (rowD []))]) = [DL.C.dK (tabK [(.inl 0, rowD [])])] := rfl
  refine db_freezeK (i := 1) (n := 0) (ds := [(.inl 0, rowD [])]) rfl rfl (hn 0) ?_
  refine db_cons ?_
  refine ds_forR PassesOwn.never rfl rfl m1 (fun _ => rfl) rfl ?_
  walk_at "goE"
  any_goals omega
  refine ⟨fun k ρ M => ∃ (ds : List (Key × D)) (f : Int → Option (List Str)) (x2 x3 x4 x5 x6 x7 x8 : Option S), ρ = [some (.d (planD m as es)), some (.d (.dK ds)), x2, x3, x4, x5, x6, x7, x8] ∧ M.all DL.C.fd = true ∧ Tab ds f ∧ BestF as k f ∧ ds.length ≤ 100 ∧ ∀ L' : Nat, L' < k → ¬ 0 < bws as es L' 0, ⟨_, _, _, _, _, _, _, _, _, rfl, rfl, ?_, best_zero as, by show (1 : Nat) ≤ 100; decide, fun L' h => absurd h (Nat.not_lt_zero _)⟩, ?_, ?_⟩
  · have t := Tab.put Tab.nil 0 []
    exact t
  · rintro k ρ' M' hk ⟨ds, f, x2, x3, x4, x5, x6, x7, x8, rfl, hM, tb, hb, hds, hno⟩
    walk_at "gname"
    refine db_cons ?_
    refine ds_setLcKK (i := 4) (j := 3) rfl nd rfl (by kernel_rfl) (sw_true rfl rfl (by kernel_rfl) (by decide +kernel)) (blkOk_by rfl) (fun s H C cl fp => pg_name nd rfl (by walk_at "loc") (by walk_at "loc")) (fun _ => rfl) ?_
    walk_at "goE"
    refine ⟨_, rfl, fun j acc M1 => acc = (endsR es f (ds.take j)).map rowD ∧ M1 = M', ⟨rfl, rfl⟩, ?_, ?_⟩
    · rintro j kk d acc M1 hj ⟨rfl, rfl⟩ hl1
      have hmem := List.mem_of_getElem? hj
      obtain ⟨q, hq⟩ := tb.ks _ hmem
      have hq : kk = .inl q := hq
      subst hq
      have hjl : j < ds.length := (List.getElem?_eq_some_iff.mp hj).1
      have htk : endsR es f (ds.take (j + 1)) = endsR es f (ds.take j) ++ (if q ∈ es then f q else none).toList := by
        unfold endsR
        rw [List.take_succ, hj, Option.toList_some, List.filterMap_append]
        congr 1
      have hlen : (endsR es f (ds.take j)).length ≤ 100 := by
        unfold endsR
        refine Nat.le_trans (List.length_filterMap_le _ _) ?_
        rw [List.length_take]
        omega
      intro s H2 C2 cl2 fp
      refine dts_one ?_
      walk_at "goE"
      refine bd_inT (neg := false) (v := .int q) rfl (flatDs_ints es) ?_
      rw [if_neg Bool.false_ne_true, inV_ints]
      refine ⟨_, rfl, fun h s H2 C2 cl2 fp => ?_, fun h => ?_⟩
      · have hqe : q ∈ es := of_decide_eq_true h
        have hs := getK_mem hmem
        have hs : (getK (tabK ds) (.inl q)).isSome = true := hs
        rw [tb.at_] at hs
        cases hf : f q with
        | none => rw [hf] at hs; cases hs
        | some r =>
          refine de_kget hu1 ?_ (fun _ _ => rfl)
          walk_at "goE"
          refine ⟨.inl q, _, .d (rowD r), rfl, rfl, by rw [tb.at_, hf]; rfl, _, M1, rfl, rfl, rfl, by rw [List.length_map, sizeLine_eq]; omega, ?_, rfl⟩
          rw [htk, if_pos hqe, hf, List.map_append]
          rfl
      · have hqe : ¬ q ∈ es := of_decide_eq_false h
        refine ⟨M1, rfl, rfl, ?_, rfl⟩
        rw [htk, if_neg hqe, Option.toList_none, List.append_nil]
    rintro acc M1 ⟨rfl, rfl⟩ hl1
    rw [List.take_length]
    refine ⟨hM, ?_⟩
    have wsw : ∀ r ∈ endsR es f ds, ∀ w ∈ r, wordB w = true := fun r hr => by
      obtain ⟨q, _, hq⟩ := (endsR_mem tb r).mp hr
      exact best_words ok.ar hb q r hq
    have wsl : ∀ r ∈ endsR es f ds, r.length = k := fun r hr => by
      obtain ⟨q, _, hq⟩ := (endsR_mem tb r).mp hr
      exact best_len hb q r hq
    refine db_cons ?_
    walk_at "S"
    walk_at "goE"
    refine bd_neV (d := .lst ((endsR es f ds).map rowD)) (e := .lst []) hu rfl rfl (okDs_rows _) rfl (rows_shaped wsw) (by first | rfl | decide | simp [SeqAt.shaped, pyD, pyDs]) ?_
    cases hW : endsR es f ds with
    | cons w ws =>
      refine ⟨true, by rw [List.map_cons]; simp [PyData.eqv, PyData.eqvAll, pyD, pyDs], fun _ => ?_, fun h => by cases h⟩
      rw [hW] at wsl
      have hE := ends_least (es := es) tb hb hW
      have hpos : 0 < bws as es k 0 := (end_pos ok.ar.nd h40 k).mpr ⟨_, hE.mem⟩
      have hkm : (k : Int) < m := by
        refine Decidable.byContradiction fun hc => none_end ok (fun L hL => hno L (by omega)) k hpos
      walk_at "go"
      refine cd_minL rfl rfl (by have := okDs_rows (w :: ws); exact this) (by have := alike_rows (w :: ws); exact this) (Nat.lt_of_le_of_lt (Nat.add_le_add_left (Nat.le_trans (rows_depth (w :: ws)) (by decide : 1 ≤ 63)) _) (by rw [Nat.add_assoc]; exact hu)) fun i e he hm => ?_
      have he : ((w :: ws).map rowD)[i]? = some e := he
      rw [List.getElem?_map] at he
      obtain ⟨z, hz, rfl⟩ := Option.map_eq_some_iff.mp he
      rw [min_rows (n := k) ws w wsl] at hm
      have hz2 := row_inj hm
      have hu2 := least_uniq (n := k) (fun z hz => (end_iff.mp hz).1) hE (rowAt_least ok hpos)
      refine rets_d rfl ?_
      show Q (.d (rowD z)) []
      rw [hz2, hu2]
      exact k1 k hkm hpos hno
    | nil =>
      refine ⟨false, by simp [PyData.eqv, PyData.eqvAll, pyD, pyDs], (fun h => by cases h), fun _ => db_nil ?_⟩
      have hnk : ¬ 0 < bws as es k 0 := fun h => by
        obtain ⟨z, hz⟩ := (end_pos ok.ar.nd h40 k).mp h
        exact ends_none tb hb hW z hz
      refine db_cons ?_
      walk_at "S"
      refine de_knew ?_
      have vK : ∀ t : TabK, viewK (M1 ++ [DL.C.dK t]) (.p M1.length) = some t := fun t => by
        show (match (M1 ++ [DL.C.dK t])[M1.length]? with | some (.dK t) => some t | _ => none) = _
        rw [at_snoc]
      refine db_cons ?_
      refine ds_forT PassesOwn.never rfl (fun _ => rfl) ?_
      walk_at "goE"
      refine ⟨_, rfl, fun i ρ M => ∃ (e2 : List (Key × D)) (g : Int → Option (List Str)) (x4 x6 x7 x8 : Option S), ρ = [some (.d (planD m as es)), some (.d (.dK ds)), some (.d (.int (k : Nat))), some (.d (.lst (List.map rowD []))), x4, some (.p M1.length), x6, x7, x8] ∧ M = M1 ++ [DL.C.dK (tabK e2)] ∧ Tab e2 g ∧ LatF (k + 1) f (as.take i) g ∧ e2.length ≤ i, ⟨[], _, _, _, _, _, rfl, rfl, Tab.nil, lat_nil _ f, Nat.le_refl _⟩, ?_, ?_⟩
      · rintro i d ρ' M' hd ⟨e2, g, x4, x6, x7, x8, rfl, rfl, tg, hg, hel⟩
        rw [List.getElem?_map] at hd
        obtain ⟨a, ha, rfl⟩ := Option.map_eq_some_iff.mp hd
        have hil : i < as.length := (List.getElem?_eq_some_iff.mp ha).1
        have hma := List.mem_of_getElem? ha
        have htk : as.take (i + 1) = as.take i ++ [a] := by rw [List.take_succ, ha]; rfl
        walk_at "goE"
        refine db_cons ?_
        refine ds_if (dt_kin hu1 ?_ rfl)
        walk_at "goE"
        refine ⟨.inl a.1, _, rfl, rfl, ?_⟩
        rw [tb.at_]
        cases hf : f a.1 with
        | none =>
          refine ⟨(fun h => by cases h), fun _ => db_nil (db_nil ⟨e2, g, _, _, _, _, rfl, rfl, tg, ?_, by omega⟩)⟩
          rw [htk]
          exact lat_no hg hf
        | some r =>
          have rl := best_len hb _ r hf
          refine ⟨fun _ => ?_, fun h => by cases h⟩
          refine db_cons ?_
          walk_at "S"
          refine de_bin ?_
          refine de_kget hu1 ?_ (fun _ _ => rfl)
          walk_at "goE"
          refine ⟨.inl a.1, _, .d (rowD r), rfl, rfl, by rw [tb.at_, hf]; rfl, ?_⟩
          walk_at "goE"
          refine ⟨_, rfl, show 1 ≤ sizeLine by decide, ?_⟩
          refine bd_addL (ds := r.map D.str) (es := [D.str a.2.1]) rfl rfl (by rw [List.length_map, rl, sizeLine_eq]; show k + 1 ≤ _; omega) ?_
          rw [show (D.lst (r.map D.str ++ [D.str a.2.1])) = rowD (r ++ [a.2.1]) by simp [rowD]]
          refine db_cons ?_
          refine ds_kput hu1 ?_ rfl
          walk_at "goE"
          refine de_kget2 hu1 ?_ ⟨rfl, rfl, rfl, rfl⟩
          walk_at "goE"
          refine ⟨⟨_, vK _⟩, ?_⟩
          walk_at "goE"
          refine ⟨.inl a.2.2, _, rfl, vK _, ?_⟩
          rw [tg.at_, show ((g a.2.2).map fun r => S.d (rowD r)).getD (S.d (rowD (r ++ [a.2.1]))) = S.d (rowD ((g a.2.2).getD (r ++ [a.2.1]))) by cases g a.2.2 <;> rfl]
          have gl : ((g a.2.2).getD (r ++ [a.2.1])).length = k + 1 := by
            cases hg2 : g a.2.2 with
            | none => show (r ++ [a.2.1]).length = _; rw [List.length_append, rl]; rfl
            | some t => exact cand_len (best_len hb) ((hg a.2.2).1 t hg2).mem
          have wl : (r ++ [a.2.1]).length = k + 1 := by rw [List.length_append, rl]; rfl
          walk_at "goE"
          refine cd_minD2 rfl (okD_row _) (okD_row _) (by have := alike_rows [(g a.2.2).getD (r ++ [a.2.1]), r ++ [a.2.1]]; exact this) (Nat.lt_of_le_of_lt (Nat.add_le_add_left (Nat.le_trans (rows_depth [(g a.2.2).getD (r ++ [a.2.1]), r ++ [a.2.1]]) (by decide : 1 ≤ 63)) _) (by rw [Nat.add_assoc]; exact hu)) ?_
          rw [lt_bel (wl.trans gl.symm), show (if bel (r ++ [a.2.1]) ((g a.2.2).getD (r ++ [a.2.1])) = true then rowD (r ++ [a.2.1]) else rowD ((g a.2.2).getD (r ++ [a.2.1]))) = rowD (minR ((g a.2.2).getD (r ++ [a.2.1])) (r ++ [a.2.1])) by unfold minR; split <;> rfl]
          walk_at "goE"
          refine ⟨.inl a.2.2, M1.length, tabK e2, rfl, rfl, at_snoc _ _, by unfold tabK; rw [List.length_map, sizeLine_eq]; omega, ?_⟩
          rw [putKs_tab, set_snoc]
          refine db_nil (db_nil ⟨_, _, _, _, _, _, rfl, rfl, tg.put a.2.2 _, ?_, Nat.le_trans (putD_len _ _ _) (by omega)⟩)
          rw [htk]
          exact lat_yes (best_len hb) hg hf
      · rintro ρ' M' ⟨e2, g, x4, x6, x7, x8, rfl, rfl, tg, hg, hel⟩
        rw [List.length_map] at hg hel
        rw [List.take_length] at hg
        refine db_cons ?_
        walk_at "S"
        walk_at "goE"
        refine db_freezeK (i := 1) (n := M1.length) (ds := e2) rfl (at_snoc _ _) (hn _) ?_
        rw [set_snoc]
        refine db_nil ⟨e2, g, _, _, _, _, _, _, _, rfl, fd_snoc hM rfl, tg, best_next ok.ar.nd hb hg, by omega, fun L' hL' => ?_⟩
        by_cases e : L' = k
        · rw [e]; exact hnk
        · exact hno L' (by omega)
  · rintro ρ' M' ⟨ds, f, x2, x3, x4, x5, x6, x7, x8, rfl, hM, tb, hb, hds, hno⟩
    walk_at "go"
    exact rets_d rfl (k2 fun L hL => hno L (by omega))

end
end
end T
end

section
set_option Elab.async false
set_option linter.all false
set_option maxRecDepth 100000
set_option maxHeartbeats 2000000
open PySem PySem.Spec PyProof.Rows L2 DL

local macro_rules | `(tactic| walk_at "vis") => `(tactic| first | exact Or.inl rfl | exact Or.inr (Or.inl rfl) | exact Or.inr (Or.inr rfl))
local macro_rules | `(tactic| walk_at "loc") => `(tactic| first | exact Or.inl rfl | exact Or.inr rfl)
local macro_rules | `(tactic| walk_at "side") => `(tactic| first | assumption | omega | decide)
local macro_rules | `(tactic| walk_at "callB") => `(tactic| first
  | ((with_reducible show DE _ _ (Expr.Call (Expr.Name (Str.ofString "len") _) _ _ _) _ _ _); refine de_callB (id := "len") rfl (by assumption) (by decide +kernel) (by decide) (by decide) rfl rfl ?_)
  | ((with_reducible show DE _ _ (Expr.Call (Expr.Name (Str.ofString "max") _) _ _ _) _ _ _); refine de_callB (id := "max") rfl (by assumption) (by decide +kernel) (by decide) (by decide) rfl rfl ?_)
  | ((with_reducible show DE _ _ (Expr.Call (Expr.Name (Str.ofString "min") _) _ _ _) _ _ _); refine de_callB (id := "min") rfl (by assumption) (by decide +kernel) (by decide) (by decide) rfl rfl ?_)
  | ((with_reducible show DE _ _ (Expr.Call (Expr.Name (Str.ofString "abs") _) _ _ _) _ _ _); refine de_callB (id := "abs") rfl (by assumption) (by decide +kernel) (by decide) (by decide) rfl rfl ?_)
  | ((with_reducible show DE _ _ (Expr.Call (Expr.Name (Str.ofString "repr") _) _ _ _) _ _ _); refine de_callB (id := "repr") rfl (by assumption) (by decide +kernel) (by decide) (by decide) rfl rfl ?_)
  | ((with_reducible show DE _ _ (Expr.Call (Expr.Name (Str.ofString "isinstance") _) _ _ _) _ _ _); refine de_callB (id := "isinstance") rfl (by assumption) (by decide +kernel) (by decide) (by decide) rfl rfl ?_)
  | ((with_reducible show DE _ _ (Expr.Call (Expr.Name (Str.ofString "sorted") _) _ _ _) _ _ _); refine de_callB (id := "sorted") rfl (by assumption) (by decide +kernel) (by decide) (by decide) rfl rfl ?_)
  | ((with_reducible show DE _ _ (Expr.Call (Expr.Name (Str.ofString "all") _) _ _ _) _ _ _); refine de_callB (id := "all") rfl (by assumption) (by decide +kernel) (by decide) (by decide) rfl rfl ?_)
  | ((with_reducible show DE _ _ (Expr.Call (Expr.Name (Str.ofString "any") _) _ _ _) _ _ _); refine de_callB (id := "any") rfl (by assumption) (by decide +kernel) (by decide) (by decide) rfl rfl ?_)
  | ((with_reducible show DE _ _ (Expr.Call (Expr.Name (Str.ofString "sum") _) _ _ _) _ _ _); refine de_callB (id := "sum") rfl (by assumption) (by decide +kernel) (by decide) (by decide) rfl rfl ?_)
  | ((with_reducible show DE _ _ (Expr.Call (Expr.Name (Str.ofString "int") _) _ _ _) _ _ _); refine de_callTy (T := "int") rfl (by assumption) (by decide +kernel) (by decide) (by decide) rfl rfl ?_)
  | ((with_reducible show DE _ _ (Expr.Call (Expr.Name (Str.ofString "tuple") _) _ _ _) _ _ _); refine de_callTy (T := "tuple") rfl (by assumption) (by decide +kernel) (by decide) (by decide) rfl rfl ?_)
  | ((with_reducible show DE _ _ (Expr.Call (Expr.Name (Str.ofString "list") _) _ _ _) _ _ _); refine de_callTy (T := "list") rfl (by assumption) (by decide +kernel) (by decide) (by decide) rfl rfl ?_)
  | ((with_reducible show DE _ _ (Expr.Call (Expr.Name (Str.ofString "set") _) _ _ _) _ _ _); refine de_callTy (T := "set") rfl (by assumption) (by decide +kernel) (by decide) (by decide) rfl rfl ?_)
  | ((with_reducible show DE _ _ (Expr.Call (Expr.Name (Str.ofString "str") _) _ _ _) _ _ _); refine de_callTy (T := "str") rfl (by assumption) (by decide +kernel) (by decide) (by decide) rfl rfl ?_))
local macro_rules | `(tactic| walk_at "own") => `(tactic| refine de_own (by assumption) (by assumption) (by assumption) (by decide) rfl (by decide) rfl rfl ?_)
local macro_rules | `(tactic| walk_at "bname") => `(tactic| first
  | ((with_reducible show DE _ _ (Expr.Name (Str.ofString "LETTERS") _) _ _ _); refine de_glob (v := .str abc) rfl (by assumption) ⟨_, rfl⟩ (fun _ => .str _) ?_ (by decide))
  | ((with_reducible show DE _ _ (Expr.Name (Str.ofString "LONGEST_WORD") _) _ _ _); refine de_glob (v := .int 8) rfl (by assumption) ⟨_, rfl⟩ (fun _ => .int _) ?_ (by decide))
  | ((with_reducible show DE _ _ (Expr.Name (Str.ofString "MOST_STATES") _) _ _ _); refine de_glob (v := .int 5) rfl (by assumption) ⟨_, rfl⟩ (fun _ => .int _) ?_ (by decide))
  | ((with_reducible show DE _ _ (Expr.Name (Str.ofString "MOST_ARROWS") _) _ _ _); refine de_glob (v := .int 40) rfl (by assumption) ⟨_, rfl⟩ (fun _ => .int _) ?_ (by decide))
  | ((with_reducible show DE _ _ (Expr.Name (Str.ofString "int") _) _ _ _); refine de_bltn (v := .ty "int") rfl (by assumption) (by decide +kernel) rfl ?_ (by decide) (by decide))
  | ((with_reducible show DE _ _ (Expr.Name (Str.ofString "bool") _) _ _ _); refine de_bltn (v := .ty "bool") rfl (by assumption) (by decide +kernel) rfl ?_ (by decide) (by decide))
  | ((with_reducible show DE _ _ (Expr.Name (Str.ofString "str") _) _ _ _); refine de_bltn (v := .ty "str") rfl (by assumption) (by decide +kernel) rfl ?_ (by decide) (by decide))
  | ((with_reducible show DE _ _ (Expr.Name (Str.ofString "tuple") _) _ _ _); refine de_bltn (v := .ty "tuple") rfl (by assumption) (by decide +kernel) rfl ?_ (by decide) (by decide))
  | ((with_reducible show DE _ _ (Expr.Name (Str.ofString "list") _) _ _ _); refine de_bltn (v := .ty "list") rfl (by assumption) (by decide +kernel) rfl ?_ (by decide) (by decide)))
local macro_rules | `(tactic| walk_at "E") => `(tactic| ((with_reducible show DE _ _ _ _ _ _); first
  | ((with_reducible show DE _ _ (Expr.Name _ _) _ _ _); first | walk_at "name" | walk_at "bname")
  | refine de_int ?_ | refine de_str ?_ | refine de_bl ?_ | refine de_non ?_
  | ((with_reducible show DE _ _ (Expr.Subscript _ (Expr.Tuple _ _ _) _) _ _ _); refine de_dget (by assumption) ?_ (fun _ _ => rfl))
  | ((with_reducible show DE _ _ (Expr.Subscript _ (Expr.Slice _ _ _ _) _) _ _ _); first | refine de_revS ?_ | refine de_slice ?_)
  | refine de_ix ?_ (fun _ _ => rfl)
  | refine de_bin ?_ | refine de_cmp ?_ (by first | exact nomark _ | rfl) | refine de_chain ?_ rfl
  | refine de_one ?_ | refine de_neg ?_ | refine de_and ?_ | refine de_or ?_ | refine de_not ?_ | refine de_if ?_
  | refine de_tup ?_ | refine de_lstP (es := []) ?_ | refine de_lst ?_
  | ((with_reducible show DE _ _ (Expr.Call (Expr.Name _ _) _ _ _) _ _ _); first | walk_at "callB" | walk_at "own")
  | ((with_reducible show DE _ _ (Expr.Call (Expr.Attribute _ (Str.ofString "append") _) _ _ _) _ _ _); refine de_append ?_ rfl rfl rfl rfl rfl)
  | ((with_reducible show DE _ _ (Expr.Call (Expr.Attribute _ (Str.ofString "insert") _) _ _ _) _ _ _); refine de_insert ?_ rfl rfl rfl rfl rfl rfl)))
local macro_rules | `(tactic| walk_at "T") => `(tactic| ((with_reducible show DT _ _ _ _ _ _); first
  | ((with_reducible show DT _ _ (Expr.Compare (Expr.Tuple _ _ _) [CmpOp.In] _ _) _ _ _); refine dt_din (by assumption) ?_ rfl)
  | refine dt_cmp ?_ (by first | exact nomark _ | rfl) | refine dt_chain ?_ rfl | refine dt_not ?_ | refine dt_w (dw_and ?_) | refine dt_w (dw_or ?_) | refine dt_val ?_ (fun _ => rfl)))
local macro_rules | `(tactic| walk_at "W") => `(tactic| ((with_reducible show DW _ _ _ _ _ _); first
  | refine dw_and ?_ | refine dw_or ?_ | refine dw_and1 ?_ | refine dw_or1 ?_))
local macro_rules | `(tactic| walk_at "A") => `(tactic| ((with_reducible show DA _ _ _ _ _ _); first | refine da_nil ?_ | refine da_cons ?_ rfl))
local macro_rules | `(tactic| walk_at "O") => `(tactic| ((with_reducible show BD _ _ _ _ _ _ _ _); first
  | ((with_reducible show BD _ _ (binaryOp Operator.Add) (S.d (D.int _)) (S.d (D.int _)) _ _ _); refine bd_add ?_)
  | ((with_reducible show BD _ _ (binaryOp Operator.Add) (S.d (D.str _)) (S.d (D.str _)) _ _ _); refine bd_addS ?_ ?_)
  | ((with_reducible show BD _ _ (binaryOp Operator.Sub) (S.d (D.int _)) (S.d (D.int _)) _ _ _); refine bd_sub ?_)
  | ((with_reducible show BD _ _ (binaryOp Operator.Mod) (S.d (D.int _)) (S.d (D.int _)) _ _ _); refine bd_mod (by walk_at "side") ?_)
  | ((with_reducible show BD _ _ (binaryOp Operator.Mult) (S.d (D.int _)) (S.d (D.int _)) _ _ _); refine bd_mul ?_ ?_)
  | ((with_reducible show BD _ _ (binaryOp Operator.FloorDiv) (S.d (D.int _)) (S.d (D.int _)) _ _ _); refine bd_fdivW ?_ ?_)
  | ((with_reducible show BD _ _ (binaryOp Operator.Pow) (S.d (D.int _)) (S.d (D.int _)) _ _ _); refine bd_pow ?_ ?_)
  | ((with_reducible show BD _ _ (compareOp CmpOp.Lt) (S.d (D.int _)) (S.d (D.int _)) _ _ _); refine bd_lt ?_)
  | ((with_reducible show BD _ _ (compareOp CmpOp.LtE) (S.d (D.int _)) (S.d (D.int _)) _ _ _); refine bd_le ?_)
  | ((with_reducible show BD _ _ (compareOp CmpOp.Gt) (S.d (D.int _)) (S.d (D.int _)) _ _ _); refine bd_gt ?_)
  | ((with_reducible show BD _ _ (compareOp CmpOp.GtE) (S.d (D.int _)) (S.d (D.int _)) _ _ _); refine bd_ge ?_)
  | ((with_reducible show BD _ _ (compareOp CmpOp.Eq) (S.d (D.int _)) (S.d (D.int _)) _ _ _); refine bd_eqI ?_)
  | ((with_reducible show BD _ _ (compareOp CmpOp.NotEq) (S.d (D.int _)) (S.d (D.int _)) _ _ _); refine bd_neI ?_)
  | ((with_reducible show BD _ _ (compareOp CmpOp.Eq) (S.d (D.str _)) (S.d (D.str _)) _ _ _); refine bd_eqS ?_)
  | ((with_reducible show BD _ _ (compareOp CmpOp.NotEq) (S.d (D.str _)) (S.d (D.str _)) _ _ _); refine bd_neS ?_)
  | ((with_reducible show BD _ _ (compareOp CmpOp.Is) _ (S.d D.non) _ _ _); refine bd_isN (by first | (intro y h; cases h) | assumption) ?_)
  | ((with_reducible show BD _ _ (compareOp CmpOp.IsNot) _ (S.d D.non) _ _ _); refine bd_notN (by first | (intro y h; cases h) | assumption) ?_)))
local macro_rules | `(tactic| walk_at "C") => `(tactic| ((with_reducible show CD _ _ _ _ _ _ _); first
  | ((with_reducible show CD _ _ (Value.type "int") _ _ _ _); refine cd_int ?_)
  | ((with_reducible show CD _ _ (Value.builtin "abs") _ _ _ _); refine cd_abs ?_)
  | ((with_reducible show CD _ _ (Value.builtin "max") _ _ _ _); refine cd_max2 rfl ?_)
  | ((with_reducible show CD _ _ (Value.builtin "min") _ _ _ _); refine cd_min2 rfl ?_)
  | ((with_reducible show CD _ _ (Value.builtin "isinstance") _ _ _ _); refine cd_isiK (by first | rfl | assumption) (by first | decide | exact tyD_six (by assumption)) (by decide) (by decide) ?_)
  | ((with_reducible show CD _ _ (Value.builtin "len") _ _ _ _); first | refine cd_lenT ?_ | refine cd_lenS ?_ ?_ | refine cd_lenP rfl ?_ | refine cd_lenL rfl ?_)
  | ((with_reducible show CD _ _ (Value.type "tuple") _ _ _ _); first | refine cd_tupleT ?_ | refine cd_tuple rfl ?_)))
local macro_rules | `(tactic| walk_at "I") => `(tactic| ((with_reducible show ID _ _ _ _ _ _ _); first
  | refine id_lstP rfl rfl ?_ | refine id_tup rfl ?_ | refine id_lst rfl rfl ?_ | refine id_str ?_ ?_ ?_))
local macro_rules | `(tactic| walk_at "S") => `(tactic| ((with_reducible show DS _ _ _ _ _ _); first
  | ((with_reducible show DS _ _ (Stmt.Assign [Expr.Name _ _] _ _) _ _ _); walk_at "set")
  | refine ds_ret ?_ | refine ds_retN ?_ | refine ds_if ?_ | refine ds_expr ?_ rfl | refine ds_pass ?_ | refine ds_break ?_ | refine ds_continue ?_
  | ((with_reducible show DS _ _ (Stmt.Assign [Expr.Attribute _ _ _] _ _) _ _ _); refine ds_fld ?_ rfl)
  | ((with_reducible show DS _ _ (Stmt.Assign [Expr.Subscript _ (Expr.Tuple _ _ _) _] _ _) _ _ _); refine ds_dput (by assumption) ?_ rfl)
  | ((with_reducible show DS _ _ (Stmt.Assign [Expr.Subscript _ _ _] _ _) _ _ _); refine ds_setL ?_ (fun _ => rfl) rfl rfl rfl) | refine ds_asg ?_ rfl rfl rfl))
local macro_rules | `(tactic| walk_at "B") => `(tactic| ((with_reducible show DB _ _ _ _ _ _); first | refine db_cons ?_ | refine db_nil ?_))
local macro_rules | `(tactic| walk_at "G") => `(tactic| first
  | ((with_reducible show DG _ _ _ _ _ _ _); first | walk_at "gname" | refine dg_tup rfl rfl rfl rfl ?_)
  | ((with_reducible show DGs _ _ _ _ _ _ _); first | refine dgs_nil ?_ | refine dgs_cons ?_ rfl))
local macro_rules | `(tactic| walk_at "X") => `(tactic| first
  | ((with_reducible show ∃ n ss j i, S.p _ = S.p n ∧ _ ∧ _ ∧ _ ∧ _); refine ⟨_, _, _, _, rfl, rfl, rfl, rfl, ?_⟩)
  | ((with_reducible show ∃ n ss, S.p _ = S.p n ∧ _ ∧ _); refine ⟨_, _, rfl, rfl, ?_⟩)
  | ((with_reducible show ∃ n, S.d (D.int _) = S.d (D.int n) ∧ _ ∧ _ ∧ _); refine ⟨_, rfl, ?_, ?_, ?_⟩)
  | ((with_reducible show ∃ b, S.d (D.bl _) = S.d (D.bl b) ∧ _); refine ⟨_, rfl, ?_⟩)
  | ((with_reducible show ∃ b, S.d (D.int _) = S.d (D.int b) ∧ _); refine ⟨_, rfl, ?_⟩))
local macro_rules | `(tactic| walk_at "L") => `(tactic| ((with_reducible show LD _ _ _ _ _ _ _ _); first
  | ((with_reducible show LD _ _ (S.d (D.tup _)) _ _ _ _ _); refine ld_tup ?_)))
local macro_rules | `(tactic| walk_at "D") => `(tactic| ((with_reducible show DO _ _ _ _ _ _); first | refine do_none ?_ | refine do_some ?_))
local macro_rules | `(tactic| walk_at "step") => `(tactic| first | walk_at "E" | walk_at "O" | walk_at "I" | walk_at "A" | walk_at "C" | walk_at "B" | walk_at "S" | walk_at "T" | walk_at "W" | walk_at "G" | walk_at "D" | walk_at "L" | walk_at "X")
local macro_rules | `(tactic| walk_at "go") => `(tactic| repeat walk_at "step")
local macro_rules | `(tactic| walk_at "goE") => `(tactic| repeat (first | walk_at "E" | walk_at "O" | walk_at "I" | walk_at "A" | walk_at "C" | walk_at "T" | walk_at "W" | walk_at "G" | walk_at "D" | walk_at "L" | walk_at "X"))

namespace T
set_option pp.deepTerms false
set_option pp.deepTerms.threshold 3
section
variable {P : Program} {w : World} {K : PySem.W.Frag} {mg : Str → Option Value} {base : Heap}

theorem repr_words {u : Nat} (hu : u + 64 < cLine) {zs : List Str} (hw : ∀ z ∈ zs, wordB z = true) (hl : zs.length ≤ 300) : ReprOk u (.lst (zs.map D.str)) := by
  have s1 : sms (zs.map D.str) = true := sms_map D.str fun z m => by rw [sm]; exact hw z m
  have c1 := cnts_map D.str 1 (xs := zs) fun z _ => cnt_str z
  have d1 := depth_map D.str 0 (xs := zs) fun z _ => by simp [pyD, PyData.depth]
  refine reprOk_of hu (by rw [sm]; exact s1) ?_ ?_
  · rw [cnt]; omega
  · rw [pyD, PyData.depth]; omega


theorem least_nat {p : Nat → Prop} : ∀ n, p n → ∃ k, p k ∧ ∀ j, j < k → ¬ p j := by
  intro n
  induction n using Nat.strongRecOn with
  | _ n ih =>
    intro hp
    by_cases h : ∃ j, j < n ∧ p j
    · obtain ⟨j, hj, h⟩ := h
      exact ih j hj h
    · exact ⟨n, hp, fun j hj h2 => h ⟨j, hj, h2⟩⟩
def sdRight : Sd := fun ss cs Q => ∃ (n : Nat) (c : C), ss = [.p 0] ∧ cs = [c] ∧ Spr n c ∧ n + 5000 < 2 ^ 60 ∧ ∀ c', Spr (n + 1000) c' → Q (.d (.bl true)) [c']
def sdLaw : Sd := fun ss cs Q => ∃ zs : List Int, ss = [.d (.lst (zs.map D.int))] ∧ zs.length ≤ 63 ∧ cs = [] ∧ Q (.d (.bl true)) []

abbrev sRight : Stmt := top 39
theorem scRight : FnScope ["spring", "plan", "work", "due", "told"] ["spring"] (defScope sRight) := ⟨rfl, rfl, rfl, by decide +kernel, rfl, by decide +kernel, by decide +kernel⟩
section
local macro_rules | `(tactic| walk_at "name") => `(tactic| first
  | ((with_reducible show DE _ _ (Expr.Name (Str.ofString "spring") _) _ _ _); refine de_name (i := 0) rfl (by walk_at "vis") rfl ?_ (by decide) (by decide))
  | ((with_reducible show DE _ _ (Expr.Name (Str.ofString "plan") _) _ _ _); refine de_name (i := 1) rfl (by walk_at "vis") rfl ?_ (by decide) (by decide))
  | ((with_reducible show DE _ _ (Expr.Name (Str.ofString "work") _) _ _ _); refine de_name (i := 2) rfl (by walk_at "vis") rfl ?_ (by decide) (by decide))
  | ((with_reducible show DE _ _ (Expr.Name (Str.ofString "due") _) _ _ _); refine de_name (i := 3) rfl (by walk_at "vis") rfl ?_ (by decide) (by decide))
  | ((with_reducible show DE _ _ (Expr.Name (Str.ofString "told") _) _ _ _); refine de_name (i := 4) rfl (by walk_at "vis") rfl ?_ (by decide) (by decide)))
local macro_rules | `(tactic| walk_at "set") => `(tactic| first
  | ((with_reducible show DS _ _ (Stmt.Assign [Expr.Name (Str.ofString "spring") _] _ _) _ _ _); refine ds_set (i := 0) ?_ (by assumption) rfl (by walk_at "loc") rfl (by walk_at "loc"))
  | ((with_reducible show DS _ _ (Stmt.Assign [Expr.Name (Str.ofString "plan") _] _ _) _ _ _); refine ds_set (i := 1) ?_ (by assumption) rfl (by walk_at "loc") rfl (by walk_at "loc"))
  | ((with_reducible show DS _ _ (Stmt.Assign [Expr.Name (Str.ofString "work") _] _ _) _ _ _); refine ds_set (i := 2) ?_ (by assumption) rfl (by walk_at "loc") rfl (by walk_at "loc"))
  | ((with_reducible show DS _ _ (Stmt.Assign [Expr.Name (Str.ofString "due") _] _ _) _ _ _); refine ds_set (i := 3) ?_ (by assumption) rfl (by walk_at "loc") rfl (by walk_at "loc"))
  | ((with_reducible show DS _ _ (Stmt.Assign [Expr.Name (Str.ofString "told") _] _ _) _ _ _); refine ds_set (i := 4) ?_ (by assumption) rfl (by walk_at "loc") rfl (by walk_at "loc")))
local macro_rules | `(tactic| walk_at "gname") => `(tactic| first
  | ((with_reducible show DG _ _ (Expr.Name (Str.ofString "spring") _) _ _ _ _); refine dg_name (i := 0) (by assumption) rfl (by walk_at "loc") (by walk_at "loc") ?_)
  | ((with_reducible show DG _ _ (Expr.Name (Str.ofString "plan") _) _ _ _ _); refine dg_name (i := 1) (by assumption) rfl (by walk_at "loc") (by walk_at "loc") ?_)
  | ((with_reducible show DG _ _ (Expr.Name (Str.ofString "work") _) _ _ _ _); refine dg_name (i := 2) (by assumption) rfl (by walk_at "loc") (by walk_at "loc") ?_)
  | ((with_reducible show DG _ _ (Expr.Name (Str.ofString "due") _) _ _ _ _); refine dg_name (i := 3) (by assumption) rfl (by walk_at "loc") (by walk_at "loc") ?_)
  | ((with_reducible show DG _ _ (Expr.Name (Str.ofString "told") _) _ _ _ _); refine dg_name (i := 4) (by assumption) rfl (by walk_at "loc") (by walk_at "loc") ?_))

theorem ok_Right {C : Addr} {f : Addr} {fd : FuncData} (FF : Fun K "_law_right" "_law_right" sRight f fd) (mk : MkC P w K mg base C) (m1 : mg "repr" = none)
    (c0 : Cal P w K mg base 1 "_law_roll" ["spring", "many"] sdRoll) (c1 : Cal P w K mg base 2 "_law_of" ["spring", "some"] sdOf) (c2 : Cal P w K mg base 4 "_law_signs" ["spring", "many"] sdSigns) (c3 : Cal P w K mg base 2 "_law_plan" ["spring", "words", "most"] sdPlan) (c4 : Cal P w K mg base 1 "_law_least" ["plan"] sdLe)
    (c5 : Cal P w K mg base 4 "shortest_row" ["machine"] (sdSR C)) (c6 : CalK P w K mg base 4 "shortest_row" ["machine"] ["machine"] (fun ts => ts) (sdSR C)) : FnG P w K mg base CX0 7 f fd ["spring"] (spOf K 1 sdRight) := by
  have nd := scRight.nd
  obtain ⟨fa, fdM, MK, GM, hmM, b3, _, _, _, _⟩ := mk.ex
  refine fn_ok FF scRight ?_
  intro cdv A outer s H E F ss cs Q hr hgu hsd hl hθ
  obtain ⟨n, c, rfl, rfl, hs, hn, k⟩ := hsd
  have hu := units64 hr
  refine db_cons ?_
  walk_at "S"
  walk_at "goE"
  refine spd1' (n := 0) rfl hs.flat rfl rfl ⟨_, c, 6, rfl, rfl, hs, by omega, by omega, by omega, fun ws cc1 hw hwn hwl h1 => ⟨cc1, rfl, got_d ?_⟩⟩
  walk_at "goE"
  refine spd1' (n := 0) rfl h1.flat rfl rfl ⟨_, cc1, ws, 5, rfl, rfl, h1, by omega, hw, hwn, hwl, by omega, by omega, fun m as es cc2 ok hin h2 => ⟨cc2, rfl, got_d ?_⟩⟩
  have h40 := ok.ar.ln
  have hm1 := ok.n1
  have hm5 := ok.n5
  have fin : ∀ (es : List Int) (cc : DL.C) (ρ' : Rho), MachOk m as es → Spr (n + 500) cc → ρ' = [some (.p 0), some (.d (planD m as es)), none, none, none] → DB F (cxOf CX0 P w K mg base ["spring", "plan", "work", "due", "told"] "_law_right" (defScope sRight) f cdv A outer s H E).nox ((defBody sRight).drop 2) ρ' [cc] { nx := fun _ M => RetS 1 (.d .non) M Q, rt := fun t M => RetS 1 t M Q } := by
    rintro es cc ρ' ok hcc rfl
    refine db_cons (ds_par (i := 2) (j := 3) rfl nd rfl rfl (by decide) (by kernel_rfl) (by kernel_rfl) (by kernel_rfl) rfl ?_ rfl rfl)
    refine de_mk (ts := []) MK GM hr hgu (by decide) rfl hmM b3 .nil (fun _ => .nil) (by decide) rfl rfl ?_
    walk_at "goE"
    refine ⟨rfl, rfl, m, as, es, rfl, ok.n1, ok.n5, ok.ar, ok.en, rfl, rfl, mach m as es, rfl, ?_⟩
    walk_at "goE"
    by_cases hE : ∃ L : Nat, (L : Int) < m ∧ 0 < bws as es L 0
    · obtain ⟨L0, hL0⟩ := hE
      obtain ⟨L, ⟨hLm, hLp⟩, hLn⟩ := least_nat (p := fun L : Nat => (L : Int) < m ∧ 0 < bws as es L 0) L0 hL0
      have hLn : ∀ L' : Nat, L' < L → ¬ 0 < bws as es L' 0 := fun L' hL' hp => hLn L' hL' ⟨by omega, hp⟩
      have key : ∀ L2 : Nat, (L2 : Int) < m → 0 < bws as es L2 0 → (∀ L' : Nat, L' < L2 → ¬ 0 < bws as es L' 0) → L2 = L := fun L2 a b c => by
        rcases Nat.lt_trichotomy L2 L with h | h | h
        · exact absurd b (hLn L2 h)
        · exact h
        · exact absurd hLp (c L h)
      have hzw : ∀ w ∈ rowAt as es L 0, wordB w = true := by
        obtain ⟨e, he, hg⟩ := (end_iff.mp (rowAt_least ok hLp).mem).2
        exact goW_words ok.ar _ _ _ hg
      have hzl : (rowAt as es L 0).length = L := rowAt_len ok (Int.le_refl 0) hLp
      generalize hzs : rowAt as es L 0 = zs at hzw hzl
      have rp := repr_words hu hzw (by omega : zs.length ≤ 300)
      refine spd0' rfl rfl ⟨m, as, es, rfl, ok, rfl, (fun L2 a b c => ?_), fun h => absurd hLp (h L hLm)⟩
      have eL := key L2 a b c
      subst eL
      rw [hzs]
      refine got_d ?_
      refine db_cons ?_
      walk_at "S"
      walk_at "goE"
      refine spd0' rfl rfl ⟨m, as, es, rfl, ok, rfl, (fun L3 a b c => ?_), fun h => absurd hLp (h _ hLm)⟩
      have eL := key L3 a b c
      subst eL
      rw [hzs]
      refine got_new ?_
      refine db_cons ?_
      walk_at "S"
      walk_at "goE"
      refine cd_reprP hgu rfl rp ?_
      walk_at "goE"
      refine cd_repr hgu rp ?_
      walk_at "goE"
      refine ⟨fun h => absurd h (by simp), fun _ => db_nil ?_⟩
      refine db_cons ?_
      walk_at "S"
      walk_at "goE"
      refine ⟨fun _ => ?_, fun h => absurd (show true = false from h) (by decide)⟩
      walk_at "go"
      refine ⟨_, rfl, by rw [List.length_map, List.length_map, sizeLine_eq]; omega, ?_⟩
      walk_at "goE"
      refine db_nil ?_
      walk_at "go"
      refine de_ownK c6 hr hgu (by decide) rfl rfl rfl (by decide) rfl ?_
      repeat (first | refine dk_cons ?_ | refine dk_nil ?_ | walk_at "E")
      refine ⟨rfl, ?_⟩
      refine spd0' rfl rfl ⟨m, as, es, rfl, ok, rfl, (fun L4 a b c => ?_), fun h => absurd hLp (h _ hLm)⟩
      have eL := key L4 a b c
      subst eL
      rw [hzs]
      refine got_new ?_
      walk_at "goE"
      refine cd_reprP hgu rfl rp ?_
      walk_at "goE"
      refine cd_repr hgu rp ?_
      walk_at "goE"
      refine rets_d (by simp [hcc.flat]) ?_
      have := k cc (hcc.mono (by omega))
      simpa using this
    · have hno : ∀ L : Nat, (L : Int) < m → ¬ 0 < bws as es L 0 := fun L a b => hE ⟨L, a, b⟩
      refine spd0' rfl rfl ⟨m, as, es, rfl, ok, rfl, (fun L2 a b c => absurd b (hno L2 a)), fun _ => ?_⟩
      refine got_d ?_
      refine db_cons ?_
      walk_at "S"
      walk_at "goE"
      refine spd0' rfl rfl ⟨m, as, es, rfl, ok, rfl, (fun L2 a b c => absurd b (hno L2 a)), fun _ => ?_⟩
      refine got_d ?_
      refine db_cons ?_
      walk_at "S"
      walk_at "goE"
      refine cd_reprN ?_
      walk_at "goE"
      refine cd_reprN ?_
      walk_at "goE"
      refine ⟨fun h => absurd h (by simp), fun _ => db_nil ?_⟩
      refine db_cons ?_
      walk_at "S"
      walk_at "goE"
      refine ⟨fun h => absurd (show false = true from h) (by decide), fun _ => db_nil ?_⟩
      walk_at "go"
      refine de_ownK c6 hr hgu (by decide) rfl rfl rfl (by decide) rfl ?_
      repeat (first | refine dk_cons ?_ | refine dk_nil ?_ | walk_at "E")
      refine ⟨rfl, ?_⟩
      refine spd0' rfl rfl ⟨m, as, es, rfl, ok, rfl, (fun L2 a b c => absurd b (hno L2 a)), fun _ => ?_⟩
      refine got_d ?_
      walk_at "goE"
      refine cd_reprN ?_
      walk_at "goE"
      refine cd_reprN ?_
      walk_at "goE"
      refine rets_d (by simp [hcc.flat]) ?_
      have := k cc (hcc.mono (by omega))
      simpa using this
  refine db_cons ?_
  walk_at "S"
  walk_at "goE"
  refine spd1' (n := 0) rfl h2.flat rfl rfl ⟨_, cc2, _, rfl, rfl, h2, by omega, by decide, by decide, fun r cc3 r0 r1 h3 => ⟨cc3, rfl, got_d ?_⟩⟩
  walk_at "goE"
  refine ⟨fun _ => ?_, fun _ => db_nil (fin es cc3 _ ok (h3.mono (by omega)) rfl)⟩
  refine db_cons ?_
  walk_at "S"
  walk_at "goE"
  refine ⟨_, rfl, show 0 ≤ sizeLine by decide, ?_⟩
  walk_at "goE"
  refine ⟨_, rfl, show 1 ≤ sizeLine by decide, ?_⟩
  walk_at "goE"
  refine ⟨_, rfl, show 1 ≤ sizeLine by decide, ?_⟩
  walk_at "goE"
  · refine ⟨_, rfl, show 1 ≤ sizeLine by decide, ?_⟩
    walk_at "goE"
    refine ⟨_, rfl, show 4 ≤ sizeLine by decide, ?_⟩
    walk_at "goE"
    refine spd1' (n := 0) rfl h3.flat rfl rfl ⟨_, cc3, _, rfl, rfl, h3, by omega, (show (0 : Nat) < 4 by decide), (show (4 : Nat) < 2 ^ 29 by decide), fun x cc4 hx h4 => ⟨cc4, rfl, got_d ?_⟩⟩
    walk_at "goE"
    refine ⟨_, rfl, show 3 ≤ sizeLine by decide, ?_⟩
    have hes : ∃ es' : List Int, x = .tup (es'.map D.int) ∧ EndsOk m es' := by
      simp only [List.mem_cons, List.not_mem_nil, or_false] at hx
      have one : ∀ e : Int, 0 ≤ e → e < m → EndsOk m [e] := fun e e0 e1 => ⟨fun x hx => by rw [List.mem_singleton.mp hx]; exact ⟨e0, e1⟩, by simp, (show (1 : Nat) ≤ 100 by decide)⟩
      rcases hx with rfl | rfl | rfl | rfl
      · exact ⟨[], rfl, ⟨fun x hx => (by cases hx), by simp, by decide⟩⟩
      · exact ⟨[_], rfl, one _ (by omega) (by omega)⟩
      · exact ⟨[_], rfl, one _ (by omega) (by omega)⟩
      · exact ⟨[_], rfl, one _ (by omega) (by omega)⟩
    obtain ⟨es', rfl, hes⟩ := hes
    exact db_nil (fin es' cc4 _ ⟨ok.n1, ok.n5, ok.ar, hes⟩ (h4.mono (by omega)) rfl)
  · exact divW (by decide) (by decide)

end
abbrev sLaw : Stmt := top 40
theorem scLaw : FnScope ["script", "place", "spring", "lap"] ["script"] (defScope sLaw) := ⟨rfl, rfl, rfl, by decide +kernel, rfl, by decide +kernel, by decide +kernel⟩
section
local macro_rules | `(tactic| walk_at "name") => `(tactic| first
  | ((with_reducible show DE _ _ (Expr.Name (Str.ofString "script") _) _ _ _); refine de_name (i := 0) rfl (by walk_at "vis") rfl ?_ (by decide) (by decide))
  | ((with_reducible show DE _ _ (Expr.Name (Str.ofString "place") _) _ _ _); refine de_name (i := 1) rfl (by walk_at "vis") rfl ?_ (by decide) (by decide))
  | ((with_reducible show DE _ _ (Expr.Name (Str.ofString "spring") _) _ _ _); refine de_name (i := 2) rfl (by walk_at "vis") rfl ?_ (by decide) (by decide))
  | ((with_reducible show DE _ _ (Expr.Name (Str.ofString "lap") _) _ _ _); refine de_name (i := 3) rfl (by walk_at "vis") rfl ?_ (by decide) (by decide)))
local macro_rules | `(tactic| walk_at "set") => `(tactic| first
  | ((with_reducible show DS _ _ (Stmt.Assign [Expr.Name (Str.ofString "script") _] _ _) _ _ _); refine ds_set (i := 0) ?_ (by assumption) rfl (by walk_at "loc") rfl (by walk_at "loc"))
  | ((with_reducible show DS _ _ (Stmt.Assign [Expr.Name (Str.ofString "place") _] _ _) _ _ _); refine ds_set (i := 1) ?_ (by assumption) rfl (by walk_at "loc") rfl (by walk_at "loc"))
  | ((with_reducible show DS _ _ (Stmt.Assign [Expr.Name (Str.ofString "spring") _] _ _) _ _ _); refine ds_set (i := 2) ?_ (by assumption) rfl (by walk_at "loc") rfl (by walk_at "loc"))
  | ((with_reducible show DS _ _ (Stmt.Assign [Expr.Name (Str.ofString "lap") _] _ _) _ _ _); refine ds_set (i := 3) ?_ (by assumption) rfl (by walk_at "loc") rfl (by walk_at "loc")))
local macro_rules | `(tactic| walk_at "gname") => `(tactic| first
  | ((with_reducible show DG _ _ (Expr.Name (Str.ofString "script") _) _ _ _ _); refine dg_name (i := 0) (by assumption) rfl (by walk_at "loc") (by walk_at "loc") ?_)
  | ((with_reducible show DG _ _ (Expr.Name (Str.ofString "place") _) _ _ _ _); refine dg_name (i := 1) (by assumption) rfl (by walk_at "loc") (by walk_at "loc") ?_)
  | ((with_reducible show DG _ _ (Expr.Name (Str.ofString "spring") _) _ _ _ _); refine dg_name (i := 2) (by assumption) rfl (by walk_at "loc") (by walk_at "loc") ?_)
  | ((with_reducible show DG _ _ (Expr.Name (Str.ofString "lap") _) _ _ _ _); refine dg_name (i := 3) (by assumption) rfl (by walk_at "loc") (by walk_at "loc") ?_))

theorem ok_Law {f : Addr} {fd : FuncData} {kk : Nat} (FF : Fun K "law" "law" sLaw f fd) (m1 : mg "range" = none) (m2 : mg "len" = none) (m3 : mg "max" = none) (m4 : mg "min" = none) (hk : 1 ≤ kk) (c1 : Cal P w K mg base 1 "_law_spring" ["script", "place"] sdSpr) (c2 : Cal P w K mg base kk "_law_right" ["spring"] sdRight) : FnG P w K mg base CX0 (kk + 1) f fd ["script"] (spOf K 1 sdLaw) := by
  have nd := scLaw.nd
  refine fn_ok FF scLaw ?_
  intro cdv A outer s H E F ss cs Q hr hgu hsd hl hθ
  obtain ⟨zs, rfl, hz, rfl, k⟩ := hsd
  walk_at "go"
  refine ds_forR PassesOwn.never rfl rfl m1 (fun _ => rfl) rfl ?_
  walk_at "go"
  have lz : ((zs.map D.int).length : Int) ≤ 63 := by rw [List.length_map]; omega
  any_goals omega
  refine ⟨fun i ρ M => ∃ (x1 x2 x3 : Option S), ρ = [some (.d (.lst (zs.map D.int))), x1, x2, x3], ⟨_, _, _, rfl⟩, ?_, ?_⟩
  · rintro i ρ' M' hi ⟨x1, x2, x3, rfl⟩
    walk_at "gname"
    refine db_cons ?_
    walk_at "S"
    refine de_own c1 hr hgu hk rfl (by decide) rfl rfl ?_
    walk_at "goE"
    refine spd0' rfl rfl ⟨zs, _, rfl, hz, by omega, by omega, rfl, fun c hs => got_new ?_⟩
    refine db_cons ?_
    refine ds_forR PassesOwn.never rfl rfl m1 (fun _ => rfl) rfl ?_
    walk_at "goE"
    any_goals omega
    refine ⟨fun j ρ M => ∃ (x3 : Option S) (cc : DL.C), ρ = [some (.d (.lst (zs.map D.int))), some (.d (.int i)), some (.p M'.length), x3] ∧ M = M' ++ [cc] ∧ Spr (1000 * j) cc, ⟨_, c, rfl, rfl, hs⟩, ?_, ?_⟩
    · rintro j ρ2 M2 hj ⟨x3, cc, rfl, rfl, hcc⟩
      walk_at "gname"
      refine db_cons (ds_if (dt_not (dt_val ?_ (fun _ => rfl))))
      refine de_own c2 hr hgu (Nat.le_refl _) rfl (by decide) rfl rfl ?_
      walk_at "goE"
      refine spd1' (n := M'.length) (at_snoc _ _) hcc.flat rfl rfl ⟨_, cc, rfl, rfl, hcc, by omega, fun c' h' => ⟨c', rfl, got_d ?_⟩⟩
      rw [set_snoc]
      refine ⟨true, rfl, (fun h => absurd h (by decide)), fun _ => db_nil ?_⟩
      exact db_nil ⟨_, c', rfl, rfl, h'.mono (by omega)⟩
    · rintro ρ2 M2 ⟨x3, cc, rfl, rfl, hcc⟩
      exact db_nil ⟨_, _, _, rfl⟩
  · rintro ρ' M' ⟨x1, x2, x3, rfl⟩
    walk_at "go"
    exact rets_d rfl k

end
end
end T
end

section
set_option Elab.async false
set_option linter.all false
set_option maxRecDepth 100000
set_option maxHeartbeats 2000000
open PySem PySem.Spec PyProof.Rows L2 DL

namespace T
set_option pp.deepTerms false
set_option pp.deepTerms.threshold 3
theorem all_mk {l : PySem.W.OpenLaw} {w : World} {K : PySem.W.Frag} {h : Heap} {mg : Str → Option Value} {fa f1 f2 f3 f4 f5 f6 f7 f8 f9 f10 f11 f12 f13 f14 f15 f16 f17 f18 f19 f20 f21 C f22 T22 t22_0 t22_1 f23 f24 f25 : Addr} (X : K.In h) (G : h.Ns mainGlobals mg) (hfa : mg "law" = some (.ref fa))
    {od1 an1 od2 an2 od3 an3 od4 an4 od5 an5 od6 an6 od7 an7 od8 an8 od9 an9 od10 an10 od11 an11 od12 an12 od13 an13 od14 an14 od15 an15 od16 an16 od17 an17 od18 an18 od19 an19 od20 an20 od21 an21 od22 an22 odT22 odt22_0 odt22_1 od23 an23 od24 an24 od25 an25 : Option Addr} {sl1 sl2 sl3 sl4 sl5 sl6 sl7 sl8 sl9 sl10 sl11 sl12 sl13 sl14 sl15 sl16 sl17 sl18 sl19 sl20 sl21 sl22 slT22 slt22_0 slt22_1 sl23 sl24 sl25 : Array (Option Value)} {oc1 kV1 dc1 pm1 cd1 ct1 oc2 kV2 dc2 pm2 cd2 ct2 oc3 kV3 dc3 pm3 cd3 ct3 oc4 kV4 dc4 pm4 cd4 ct4 oc5 kV5 dc5 pm5 cd5 ct5 oc6 kV6 dc6 pm6 cd6 ct6 oc7 kV7 dc7 pm7 cd7 ct7 oc8 kV8 dc8 pm8 cd8 ct8 oc9 kV9 dc9 pm9 cd9 ct9 oc10 kV10 dc10 pm10 cd10 ct10 oc11 kV11 dc11 pm11 cd11 ct11 oc12 kV12 dc12 pm12 cd12 ct12 oc13 kV13 dc13 pm13 cd13 ct13 oc14 kV14 dc14 pm14 cd14 ct14 oc15 kV15 dc15 pm15 cd15 ct15 oc16 kV16 dc16 pm16 cd16 ct16 oc17 kV17 dc17 pm17 cd17 ct17 oc18 kV18 dc18 pm18 cd18 ct18 oc19 kV19 dc19 pm19 cd19 ct19 oc20 kV20 dc20 pm20 cd20 ct20 oc21 kV21 dc21 pm21 cd21 ct21 oc22 kV22 dc22 pm22 cd22 ct22 ocT22 oc23 kV23 dc23 pm23 cd23 ct23 oc24 kV24 dc24 pm24 cd24 ct24 oc25 kV25 dc25 pm25 cd25 ct25 : Value} {tk0 tk1 tk2 tk3 tk4 : Tok}
    (a1 : PySem.W.nsIn K mainGlobals "is_integer" = some (some (.ref f1))) (l1 : K.lookup f1 = some ⟨oc1, od1, .func (PySem.W.fnOf "is_integer" "is_integer" (defArgs sII) (defBody sII) (defScope sII) .none kV1 dc1 pm1 an1 cd1 ct1), sl1⟩) (c1 : PySem.W.codeIn K cd1 "is_integer" = true) (k1 : PySem.W.keepIn K (.ref f1) = true)
    (a2 : PySem.W.nsIn K mainGlobals "is_word" = some (some (.ref f2))) (l2 : K.lookup f2 = some ⟨oc2, od2, .func (PySem.W.fnOf "is_word" "is_word" (defArgs sIW) (defBody sIW) (defScope sIW) .none kV2 dc2 pm2 an2 cd2 ct2), sl2⟩) (c2 : PySem.W.codeIn K cd2 "is_word" = true) (k2 : PySem.W.keepIn K (.ref f2) = true)
    (a3 : PySem.W.nsIn K mainGlobals "_check_length" = some (some (.ref f3))) (l3 : K.lookup f3 = some ⟨oc3, od3, .func (PySem.W.fnOf "_check_length" "_check_length" (defArgs sCL) (defBody sCL) (defScope sCL) .none kV3 dc3 pm3 an3 cd3 ct3), sl3⟩) (c3 : PySem.W.codeIn K cd3 "_check_length" = true) (k3 : PySem.W.keepIn K (.ref f3) = true)
    (a4 : PySem.W.nsIn K mainGlobals "_counts" = some (some (.ref f4))) (l4 : K.lookup f4 = some ⟨oc4, od4, .func (PySem.W.fnOf "_counts" "_counts" (defArgs sCo) (defBody sCo) (defScope sCo) .none kV4 dc4 pm4 an4 cd4 ct4), sl4⟩) (c4 : PySem.W.codeIn K cd4 "_counts" = true) (k4 : PySem.W.keepIn K (.ref f4) = true)
    (a5 : PySem.W.nsIn K mainGlobals "rows_count" = some (some (.ref f5))) (l5 : K.lookup f5 = some ⟨oc5, od5, .func (PySem.W.fnOf "rows_count" "rows_count" (defArgs sRC) (defBody sRC) (defScope sRC) .none kV5 dc5 pm5 an5 cd5 ct5), sl5⟩) (c5 : PySem.W.codeIn K cd5 "rows_count" = true) (k5 : PySem.W.keepIn K (.ref f5) = true)
    (a6 : PySem.W.nsIn K mainGlobals "_take_arrow" = some (some (.ref f6))) (l6 : K.lookup f6 = some ⟨oc6, od6, .func (PySem.W.fnOf "_take_arrow" "_take_arrow" (defArgs sTA) (defBody sTA) (defScope sTA) .none kV6 dc6 pm6 an6 cd6 ct6), sl6⟩) (c6 : PySem.W.codeIn K cd6 "_take_arrow" = true) (k6 : PySem.W.keepIn K (.ref f6) = true)
    (a7 : PySem.W.nsIn K mainGlobals "row_at" = some (some (.ref f7))) (l7 : K.lookup f7 = some ⟨oc7, od7, .func (PySem.W.fnOf "row_at" "row_at" (defArgs sAt) (defBody sAt) (defScope sAt) .none kV7 dc7 pm7 an7 cd7 ct7), sl7⟩) (c7 : PySem.W.codeIn K cd7 "row_at" = true) (k7 : PySem.W.keepIn K (.ref f7) = true)
    (a8 : PySem.W.nsIn K mainGlobals "shortest_row" = some (some (.ref f8))) (l8 : K.lookup f8 = some ⟨oc8, od8, .func (PySem.W.fnOf "shortest_row" "shortest_row" (defArgs sSR) (defBody sSR) (defScope sSR) .none kV8 dc8 pm8 an8 cd8 ct8), sl8⟩) (c8 : PySem.W.codeIn K cd8 "shortest_row" = true) (k8 : PySem.W.keepIn K (.ref f8) = true)
    (a9 : PySem.W.nsIn K mainGlobals "_is_state" = some (some (.ref f9))) (l9 : K.lookup f9 = some ⟨oc9, od9, .func (PySem.W.fnOf "_is_state" "_is_state" (defArgs sST) (defBody sST) (defScope sST) .none kV9 dc9 pm9 an9 cd9 ct9), sl9⟩) (c9 : PySem.W.codeIn K cd9 "_is_state" = true) (k9 : PySem.W.keepIn K (.ref f9) = true)
    (a10 : PySem.W.nsIn K mainGlobals "_is_arrow" = some (some (.ref f10))) (l10 : K.lookup f10 = some ⟨oc10, od10, .func (PySem.W.fnOf "_is_arrow" "_is_arrow" (defArgs sAR) (defBody sAR) (defScope sAR) .none kV10 dc10 pm10 an10 cd10 ct10), sl10⟩) (c10 : PySem.W.codeIn K cd10 "_is_arrow" = true) (k10 : PySem.W.keepIn K (.ref f10) = true)
    (a11 : PySem.W.nsIn K mainGlobals "_are_ends" = some (some (.ref f11))) (l11 : K.lookup f11 = some ⟨oc11, od11, .func (PySem.W.fnOf "_are_ends" "_are_ends" (defArgs sAE) (defBody sAE) (defScope sAE) .none kV11 dc11 pm11 an11 cd11 ct11), sl11⟩) (c11 : PySem.W.codeIn K cd11 "_are_ends" = true) (k11 : PySem.W.keepIn K (.ref f11) = true)
    (a12 : PySem.W.nsIn K mainGlobals "_read_arrows" = some (some (.ref f12))) (l12 : K.lookup f12 = some ⟨oc12, od12, .func (PySem.W.fnOf "_read_arrows" "_read_arrows" (defArgs sRA) (defBody sRA) (defScope sRA) .none kV12 dc12 pm12 an12 cd12 ct12), sl12⟩) (c12 : PySem.W.codeIn K cd12 "_read_arrows" = true) (k12 : PySem.W.keepIn K (.ref f12) = true)
    (a13 : PySem.W.nsIn K mainGlobals "_law_spring" = some (some (.ref f13))) (l13 : K.lookup f13 = some ⟨oc13, od13, .func (PySem.W.fnOf "_law_spring" "_law_spring" (defArgs sSpr) (defBody sSpr) (defScope sSpr) .none kV13 dc13 pm13 an13 cd13 ct13), sl13⟩) (c13 : PySem.W.codeIn K cd13 "_law_spring" = true) (k13 : PySem.W.keepIn K (.ref f13) = true)
    (a14 : PySem.W.nsIn K mainGlobals "_law_roll" = some (some (.ref f14))) (l14 : K.lookup f14 = some ⟨oc14, od14, .func (PySem.W.fnOf "_law_roll" "_law_roll" (defArgs sRoll) (defBody sRoll) (defScope sRoll) .none kV14 dc14 pm14 an14 cd14 ct14), sl14⟩) (c14 : PySem.W.codeIn K cd14 "_law_roll" = true) (k14 : PySem.W.keepIn K (.ref f14) = true)
    (a15 : PySem.W.nsIn K mainGlobals "_law_of" = some (some (.ref f15))) (l15 : K.lookup f15 = some ⟨oc15, od15, .func (PySem.W.fnOf "_law_of" "_law_of" (defArgs sOf) (defBody sOf) (defScope sOf) .none kV15 dc15 pm15 an15 cd15 ct15), sl15⟩) (c15 : PySem.W.codeIn K cd15 "_law_of" = true) (k15 : PySem.W.keepIn K (.ref f15) = true)
    (a16 : PySem.W.nsIn K mainGlobals "_law_word" = some (some (.ref f16))) (l16 : K.lookup f16 = some ⟨oc16, od16, .func (PySem.W.fnOf "_law_word" "_law_word" (defArgs sWord) (defBody sWord) (defScope sWord) .none kV16 dc16 pm16 an16 cd16 ct16), sl16⟩) (c16 : PySem.W.codeIn K cd16 "_law_word" = true) (k16 : PySem.W.keepIn K (.ref f16) = true)
    (a17 : PySem.W.nsIn K mainGlobals "_law_signs" = some (some (.ref f17))) (l17 : K.lookup f17 = some ⟨oc17, od17, .func (PySem.W.fnOf "_law_signs" "_law_signs" (defArgs sSigns) (defBody sSigns) (defScope sSigns) .none kV17 dc17 pm17 an17 cd17 ct17), sl17⟩) (c17 : PySem.W.codeIn K cd17 "_law_signs" = true) (k17 : PySem.W.keepIn K (.ref f17) = true)
    (a18 : PySem.W.nsIn K mainGlobals "_law_plan" = some (some (.ref f18))) (l18 : K.lookup f18 = some ⟨oc18, od18, .func (PySem.W.fnOf "_law_plan" "_law_plan" (defArgs sPlan) (defBody sPlan) (defScope sPlan) .none kV18 dc18 pm18 an18 cd18 ct18), sl18⟩) (c18 : PySem.W.codeIn K cd18 "_law_plan" = true) (k18 : PySem.W.keepIn K (.ref f18) = true)
    (a19 : PySem.W.nsIn K mainGlobals "_law_least" = some (some (.ref f19))) (l19 : K.lookup f19 = some ⟨oc19, od19, .func (PySem.W.fnOf "_law_least" "_law_least" (defArgs sLe) (defBody sLe) (defScope sLe) .none kV19 dc19 pm19 an19 cd19 ct19), sl19⟩) (c19 : PySem.W.codeIn K cd19 "_law_least" = true) (k19 : PySem.W.keepIn K (.ref f19) = true)
    (a20 : PySem.W.nsIn K mainGlobals "_law_right" = some (some (.ref f20))) (l20 : K.lookup f20 = some ⟨oc20, od20, .func (PySem.W.fnOf "_law_right" "_law_right" (defArgs sRight) (defBody sRight) (defScope sRight) .none kV20 dc20 pm20 an20 cd20 ct20), sl20⟩) (c20 : PySem.W.codeIn K cd20 "_law_right" = true) (k20 : PySem.W.keepIn K (.ref f20) = true)
    (a21 : PySem.W.nsIn K mainGlobals "law" = some (some (.ref f21))) (l21 : K.lookup f21 = some ⟨oc21, od21, .func (PySem.W.fnOf "law" "law" (defArgs sLaw) (defBody sLaw) (defScope sLaw) .none kV21 dc21 pm21 an21 cd21 ct21), sl21⟩) (c21 : PySem.W.codeIn K cd21 "law" = true) (k21 : PySem.W.keepIn K (.ref f21) = true)
    (aC : PySem.W.nsIn K mainGlobals "Machine" = some (some (.ref C)))
    (a22 : PySem.W.findIn K (.ref C) "__init__" = some (some (.ref f22))) (i22 : PySem.W.isFn K (.ref f22) = true) (l22 : K.lookup f22 = some ⟨oc22, od22, .func (PySem.W.fnOf "__init__" "Machine.__init__" (defArgs sMI) (defBody sMI) (defScope sMI) (.ref T22) kV22 dc22 pm22 an22 cd22 ct22), sl22⟩) (c22 : PySem.W.codeIn K cd22 "Machine.__init__" = true) (k22 : PySem.W.keepIn K (.ref f22) = true)
    {nT22 nt22_0 nt22_1 : Nat} (lT22 : K.lookup T22 = some ⟨ocT22, odT22, .seq #[.ref t22_0, .ref t22_1] nT22, slT22⟩)
    (lt22_0 : K.lookup t22_0 = some ⟨.type "tuple", odt22_0, .seq #[] nt22_0, slt22_0⟩)
    (lt22_1 : K.lookup t22_1 = some ⟨.type "tuple", odt22_1, .seq #[] nt22_1, slt22_1⟩)
    (a23 : PySem.W.findIn K (.ref C) "size" = some (some (.ref f23))) (i23 : PySem.W.isFn K (.ref f23) = true) (l23 : K.lookup f23 = some ⟨oc23, od23, .func (PySem.W.fnOf "size" "Machine.size" (defArgs sMS) (defBody sMS) (defScope sMS) .none kV23 dc23 pm23 an23 cd23 ct23), sl23⟩) (c23 : PySem.W.codeIn K cd23 "Machine.size" = true) (k23 : PySem.W.keepIn K (.ref f23) = true)
    (a24 : PySem.W.findIn K (.ref C) "arrows" = some (some (.ref f24))) (i24 : PySem.W.isFn K (.ref f24) = true) (l24 : K.lookup f24 = some ⟨oc24, od24, .func (PySem.W.fnOf "arrows" "Machine.arrows" (defArgs sMA) (defBody sMA) (defScope sMA) .none kV24 dc24 pm24 an24 cd24 ct24), sl24⟩) (c24 : PySem.W.codeIn K cd24 "Machine.arrows" = true) (k24 : PySem.W.keepIn K (.ref f24) = true)
    (a25 : PySem.W.findIn K (.ref C) "ends" = some (some (.ref f25))) (i25 : PySem.W.isFn K (.ref f25) = true) (l25 : K.lookup f25 = some ⟨oc25, od25, .func (PySem.W.fnOf "ends" "Machine.ends" (defArgs sME) (defBody sME) (defScope sME) .none kV25 dc25 pm25 an25 cd25 ct25), sl25⟩) (c25 : PySem.W.codeIn K cd25 "Machine.ends" = true) (k25 : PySem.W.keepIn K (.ref f25) = true)
    (pg : PySem.W.plainGet K C Str.empty = true) (hd : PySem.W.hasDictIn K C = true) (po : PySem.W.plainOver K C = true) (sa : PySem.W.findIn K (.ref C) "__setattr__" = some (some (.builtin "object.__setattr__"))) (mk : PySem.W.makesIn K C = true) (kc : PySem.W.keepIn K (.ref C) = true)
    (n1 : PySem.W.findIn K (.ref C) "_size" = some none)
    (n2 : PySem.W.findIn K (.ref C) "_targets" = some none)
    (n3 : PySem.W.findIn K (.ref C) "_arrows" = some none)
    (n4 : PySem.W.findIn K (.ref C) "_ends" = some none)
    (cst0 : PySem.W.nsIn K mainGlobals "LETTERS" = some (some (.str abc tk0)))
    (cst1 : PySem.W.nsIn K mainGlobals "LONGEST_WORD" = some (some (.int 8 tk1)))
    (cst2 : PySem.W.nsIn K mainGlobals "LONGEST_ROW" = some (some (.int 200 tk2)))
    (cst3 : PySem.W.nsIn K mainGlobals "MOST_STATES" = some (some (.int 5 tk3)))
    (cst4 : PySem.W.nsIn K mainGlobals "MOST_ARROWS" = some (some (.int 40 tk4)))
    (z_isinstance : PySem.W.nsIn K mainGlobals "isinstance" = some none)
    (z_int : PySem.W.nsIn K mainGlobals "int" = some none)
    (z_bool : PySem.W.nsIn K mainGlobals "bool" = some none)
    (z_str : PySem.W.nsIn K mainGlobals "str" = some none)
    (z_tuple : PySem.W.nsIn K mainGlobals "tuple" = some none)
    (z_len : PySem.W.nsIn K mainGlobals "len" = some none)
    (z_all : PySem.W.nsIn K mainGlobals "all" = some none)
    (z_set : PySem.W.nsIn K mainGlobals "set" = some none)
    (z_enumerate : PySem.W.nsIn K mainGlobals "enumerate" = some none)
    (z_sorted : PySem.W.nsIn K mainGlobals "sorted" = some none)
    (z_range : PySem.W.nsIn K mainGlobals "range" = some none)
    (z_repr : PySem.W.nsIn K mainGlobals "repr" = some none)
    (z_max : PySem.W.nsIn K mainGlobals "max" = some none)
    (z_min : PySem.W.nsIn K mainGlobals "min" = some none)
    (z_abs : PySem.W.nsIn K mainGlobals "abs" = some none)
    (z_reversed : PySem.W.nsIn K mainGlobals "reversed" = some none)
    : ∃ fd : FuncData, (∀ (s : Shared) (v : Value), BindsTo s fd ⟨[v], []⟩ [("script", v)]) ∧ ∀ base : Heap, K.In base → base.Ns mainGlobals mg → FnG l.prog w K mg base CX0 8 fa fd ["script"] (spOf K 1 sdLaw) := by
  have e := hfa.symm.trans (PySem.W.mg_of X G a21)
  cases e
  have m_isinstance : mg "isinstance" = none := PySem.W.mg_none_of X G z_isinstance
  have m_int : mg "int" = none := PySem.W.mg_none_of X G z_int
  have m_bool : mg "bool" = none := PySem.W.mg_none_of X G z_bool
  have m_str : mg "str" = none := PySem.W.mg_none_of X G z_str
  have m_tuple : mg "tuple" = none := PySem.W.mg_none_of X G z_tuple
  have m_len : mg "len" = none := PySem.W.mg_none_of X G z_len
  have m_all : mg "all" = none := PySem.W.mg_none_of X G z_all
  have m_set : mg "set" = none := PySem.W.mg_none_of X G z_set
  have m_enumerate : mg "enumerate" = none := PySem.W.mg_none_of X G z_enumerate
  have m_sorted : mg "sorted" = none := PySem.W.mg_none_of X G z_sorted
  have m_range : mg "range" = none := PySem.W.mg_none_of X G z_range
  have m_repr : mg "repr" = none := PySem.W.mg_none_of X G z_repr
  have m_max : mg "max" = none := PySem.W.mg_none_of X G z_max
  have m_min : mg "min" = none := PySem.W.mg_none_of X G z_min
  have m_abs : mg "abs" = none := PySem.W.mg_none_of X G z_abs
  have m_reversed : mg "reversed" = none := PySem.W.mg_none_of X G z_reversed
  have v_LETTERS : mg "LETTERS" = some (.str abc tk0) := PySem.W.mg_of X G cst0
  have v_LONGEST_WORD : mg "LONGEST_WORD" = some (.int 8 tk1) := PySem.W.mg_of X G cst1
  have v_LONGEST_ROW : mg "LONGEST_ROW" = some (.int 200 tk2) := PySem.W.mg_of X G cst2
  have v_MOST_STATES : mg "MOST_STATES" = some (.int 5 tk3) := PySem.W.mg_of X G cst3
  have v_MOST_ARROWS : mg "MOST_ARROWS" = some (.int 40 tk4) := PySem.W.mg_of X G cst4
  have FII := fun_mk (st := sII) l1 c1 k1
  have hII := PySem.W.mg_of X G a1
  have bII := FII.binds (ps := ["value"]) fun _ _ _ _ _ _ us hl => match us, hl with | [_], _ => rfl
  have FIW := fun_mk (st := sIW) l2 c2 k2
  have hIW := PySem.W.mg_of X G a2
  have bIW := FIW.binds (ps := ["value"]) fun _ _ _ _ _ _ us hl => match us, hl with | [_], _ => rfl
  have FCL := fun_mk (st := sCL) l3 c3 k3
  have hCL := PySem.W.mg_of X G a3
  have bCL := FCL.binds (ps := ["length"]) fun _ _ _ _ _ _ us hl => match us, hl with | [_], _ => rfl
  have FCo := fun_mk (st := sCo) l4 c4 k4
  have hCo := PySem.W.mg_of X G a4
  have bCo := FCo.binds (ps := ["machine", "length"]) fun _ _ _ _ _ _ us hl => match us, hl with | [_, _], _ => rfl
  have FRC := fun_mk (st := sRC) l5 c5 k5
  have hRC := PySem.W.mg_of X G a5
  have bRC := FRC.binds (ps := ["machine", "length"]) fun _ _ _ _ _ _ us hl => match us, hl with | [_, _], _ => rfl
  have FTA := fun_mk (st := sTA) l6 c6 k6
  have hTA := PySem.W.mg_of X G a6
  have bTA := FTA.binds (ps := ["arrows", "counts", "place"]) fun _ _ _ _ _ _ us hl => match us, hl with | [_, _, _], _ => rfl
  have FAt := fun_mk (st := sAt) l7 c7 k7
  have hAt := PySem.W.mg_of X G a7
  have bAt := FAt.binds (ps := ["machine", "length", "number"]) fun _ _ _ _ _ _ us hl => match us, hl with | [_, _, _], _ => rfl
  have FSR := fun_mk (st := sSR) l8 c8 k8
  have hSR := PySem.W.mg_of X G a8
  have bSR := FSR.binds (ps := ["machine"]) fun _ _ _ _ _ _ us hl => match us, hl with | [_], _ => rfl
  have FST := fun_mk (st := sST) l9 c9 k9
  have hST := PySem.W.mg_of X G a9
  have bST := FST.binds (ps := ["size", "value"]) fun _ _ _ _ _ _ us hl => match us, hl with | [_, _], _ => rfl
  have FAR := fun_mk (st := sAR) l10 c10 k10
  have hAR := PySem.W.mg_of X G a10
  have bAR := FAR.binds (ps := ["size", "value"]) fun _ _ _ _ _ _ us hl => match us, hl with | [_, _], _ => rfl
  have FAE := fun_mk (st := sAE) l11 c11 k11
  have hAE := PySem.W.mg_of X G a11
  have bAE := FAE.binds (ps := ["size", "value"]) fun _ _ _ _ _ _ us hl => match us, hl with | [_, _], _ => rfl
  have FRA := fun_mk (st := sRA) l12 c12 k12
  have hRA := PySem.W.mg_of X G a12
  have bRA := FRA.binds (ps := ["size", "arrows"]) fun _ _ _ _ _ _ us hl => match us, hl with | [_, _], _ => rfl
  have FSpr := fun_mk (st := sSpr) l13 c13 k13
  have hSpr := PySem.W.mg_of X G a13
  have bSpr := FSpr.binds (ps := ["script", "place"]) fun _ _ _ _ _ _ us hl => match us, hl with | [_, _], _ => rfl
  have FRoll := fun_mk (st := sRoll) l14 c14 k14
  have hRoll := PySem.W.mg_of X G a14
  have bRoll := FRoll.binds (ps := ["spring", "many"]) fun _ _ _ _ _ _ us hl => match us, hl with | [_, _], _ => rfl
  have FOf := fun_mk (st := sOf) l15 c15 k15
  have hOf := PySem.W.mg_of X G a15
  have bOf := FOf.binds (ps := ["spring", "some"]) fun _ _ _ _ _ _ us hl => match us, hl with | [_, _], _ => rfl
  have FWord := fun_mk (st := sWord) l16 c16 k16
  have hWord := PySem.W.mg_of X G a16
  have bWord := FWord.binds (ps := ["spring"]) fun _ _ _ _ _ _ us hl => match us, hl with | [_], _ => rfl
  have FSigns := fun_mk (st := sSigns) l17 c17 k17
  have hSigns := PySem.W.mg_of X G a17
  have bSigns := FSigns.binds (ps := ["spring", "many"]) fun _ _ _ _ _ _ us hl => match us, hl with | [_, _], _ => rfl
  have FPlan := fun_mk (st := sPlan) l18 c18 k18
  have hPlan := PySem.W.mg_of X G a18
  have bPlan := FPlan.binds (ps := ["spring", "words", "most"]) fun _ _ _ _ _ _ us hl => match us, hl with | [_, _, _], _ => rfl
  have FLe := fun_mk (st := sLe) l19 c19 k19
  have hLe := PySem.W.mg_of X G a19
  have bLe := FLe.binds (ps := ["plan"]) fun _ _ _ _ _ _ us hl => match us, hl with | [_], _ => rfl
  have FRight := fun_mk (st := sRight) l20 c20 k20
  have hRight := PySem.W.mg_of X G a20
  have bRight := FRight.binds (ps := ["spring"]) fun _ _ _ _ _ _ us hl => match us, hl with | [_], _ => rfl
  have FLaw := fun_mk (st := sLaw) l21 c21 k21
  have hLaw := PySem.W.mg_of X G a21
  have bLaw := FLaw.binds (ps := ["script"]) fun _ _ _ _ _ _ us hl => match us, hl with | [_], _ => rfl
  obtain ⟨fdMI, FMI⟩ : ∃ fd, FunD K "__init__" "Machine.__init__" (defArgs sMI) (defBody sMI) (defScope sMI) [.ref t22_0, .ref t22_1] [] f22 fd := ⟨PySem.W.fnOf "__init__" "Machine.__init__" (defArgs sMI) (defBody sMI) (defScope sMI) (.ref T22) kV22 dc22 pm22 an22 cd22 ct22, ⟨oc22, od22, _, kV22, dc22, pm22, an22, cd22, ct22, sl22, rfl, l22, c22, .inr ⟨by simp, T22, _, [.ref t22_0, .ref t22_1], nT22, rfl, lT22, rfl, .cons rfl (.cons rfl (.nil))⟩, .inl rfl⟩, k22⟩
  have rt22_0 : ∀ g : Gh, RepS K g (.ref t22_0) (.d (.tup [])) := fun g => Rep.tup (xs := []) (.inr ⟨_, #[], nt22_0, lt22_0, rfl, rfl, by decide, .nil⟩) .nil
  have rt22_1 : ∀ g : Gh, RepS K g (.ref t22_1) (.d (.tup [])) := fun g => Rep.tup (xs := []) (.inr ⟨_, #[], nt22_1, lt22_1, rfl, rfl, by decide, .nil⟩) .nil
  have FMS := fun_mk (st := sMS) l23 c23 k23
  have bMS := FMS.binds (ps := ["self"]) fun _ _ _ _ _ _ us hl => match us, hl with | [_], _ => rfl
  have FMA := fun_mk (st := sMA) l24 c24 k24
  have bMA := FMA.binds (ps := ["self"]) fun _ _ _ _ _ _ us hl => match us, hl with | [_], _ => rfl
  have FME := fun_mk (st := sME) l25 c25 k25
  have bME := FME.binds (ps := ["self"]) fun _ _ _ _ _ _ us hl => match us, hl with | [_], _ => rfl
  have cl : Cls K C := ⟨pg, hd, po, sa⟩
  have gC := PySem.W.mg_of X G aC
  have dv : [V.ref t22_0, V.ref t22_1] ≠ [] := by simp
  have b3 : Binds K fdMI psM [] := by
    obtain ⟨ds, r, b⟩ := FMI.binds1 (ps := psM) 4 2 dv rfl fun T kV doc pm an cdv ct us its hu hi => match us, its, hu, hi with | [_, _, _, _], [_, _], _, _ => ⟨_, rfl, rfl⟩
    cases r
    exact b
  have b2 : ∃ ds dvs, Binds K fdMI psM ds ∧ Vals dvs ds ∧ ∀ g, RepSs K g dvs [.d (.tup [])] := by
    obtain ⟨ds, r, b⟩ := FMI.binds1 (ps := psM) 3 1 dv rfl fun T kV doc pm an cdv ct us its hu hi => match us, its, hu, hi with | [_, _, _], [_, _], _, _ => ⟨_, rfl, rfl⟩
    exact ⟨ds, _, b, r, fun g => .cons (rt22_1 g) .nil⟩
  have b1 : ∃ ds dvs, Binds K fdMI psM ds ∧ Vals dvs ds ∧ ∀ g, RepSs K g dvs [.d (.tup []), .d (.tup [])] := by
    obtain ⟨ds, r, b⟩ := FMI.binds1 (ps := psM) 2 0 dv rfl fun T kV doc pm an cdv ct us its hu hi => match us, its, hu, hi with | [_, _], [_, _], _, _ => ⟨_, rfl, rfl⟩
    exact ⟨ds, _, b, r, fun g => .cons (rt22_0 g) (.cons (rt22_1 g) .nil)⟩
  have k1 : KwTo K fdMI psM ["ends", "arrows", "size"] 0 (fun _ ts => [ts.getD 2 (.d .non), ts.getD 1 (.d .non), ts.getD 0 (.d .non)]) := by
    obtain ⟨its, kb⟩ := FMI.kbindsD (ps := psM) 1 ["ends", "arrows", "size"] (fun us _ ws => us ++ (ws.drop 2 ++ ((ws.drop 1).take 1 ++ ws.take 1))) dv (fun r1 r2 r3 => r1.append ((r3.drop 2).append (((r3.drop 1).take 1).append (r3.take 1)))) fun T kV doc pm an cdv ct us its ws hu hi hw => match us, its, ws, hu, hi, hw with | [_], [_, _], [_, _, _], _, _, _ => ⟨_, rfl, rfl⟩
    refine ⟨fun _ ws => ws.drop 2 ++ ((ws.drop 1).take 1 ++ ws.take 1), fun _ zs => zs.drop 2 ++ ((zs.drop 1).take 1 ++ zs.take 1), fun s y us ws hk hu hw => ?_, fun _ _ _ r3 => (r3.drop 2).append (((r3.drop 1).take 1).append (r3.take 1)), ?_⟩
    · have := kb.to s [y] ws hk rfl hw
      match us, hu with
      | [], _ => exact this
    · intro Gg vs zs ss ts hs ht _ r
      match ts, ht, r with
      | [_, _, _], _, .cons a (.cons b (.cons c .nil)) => exact .cons c (.cons b (.cons a .nil))
  have k2 : KwTo K fdMI psM ["ends", "arrows"] 1 (fun ss ts => [ss.getD 0 (.d .non), ts.getD 1 (.d .non), ts.getD 0 (.d .non)]) := by
    obtain ⟨its, kb⟩ := FMI.kbindsD (ps := psM) 2 ["ends", "arrows"] (fun us _ ws => us ++ (ws.drop 1 ++ ws.take 1)) dv (fun r1 r2 r3 => r1.append ((r3.drop 1).append (r3.take 1))) fun T kV doc pm an cdv ct us its ws hu hi hw => match us, its, ws, hu, hi, hw with | [_, _], [_, _], [_, _], _, _, _ => ⟨_, rfl, rfl⟩
    refine ⟨fun us ws => us ++ (ws.drop 1 ++ ws.take 1), fun vs zs => vs ++ (zs.drop 1 ++ zs.take 1), fun s y us ws hk hu hw => ?_, fun _ _ r1 r3 => r1.append ((r3.drop 1).append (r3.take 1)), ?_⟩
    · exact kb.to s (y :: us) ws hk (by rw [List.length_cons, hu]) hw
    · intro Gg vs zs ss ts hs ht rs r
      match ss, ts, hs, ht, rs, r with
      | [_], [_, _], _, _, .cons a .nil, .cons b (.cons c .nil) => exact .cons a (.cons c (.cons b .nil))
  refine ⟨PySem.W.fnOf "law" "law" (defArgs sLaw) (defBody sLaw) (defScope sLaw) .none kV21 dc21 pm21 an21 cd21 ct21, fun s v => .of_eq rfl, fun base _ _ => ?_⟩
  have cII : Cal l.prog w K mg base 1 "is_integer" ["value"] sdII := ⟨_, _, ok_II FII m_isinstance m_int m_bool, hII, FII.kp, bII⟩
  have cIW : Cal l.prog w K mg base 1 "is_word" ["value"] sdIW := ⟨_, _, ok_IW FIW m_isinstance m_str m_len m_all v_LETTERS v_LONGEST_WORD, hIW, FIW.kp, bIW⟩
  have cST : Cal l.prog w K mg base 2 "_is_state" ["size", "value"] sdST := ⟨_, _, ok_ST FST cII, hST, FST.kp, bST⟩
  have cAR : Cal l.prog w K mg base 3 "_is_arrow" ["size", "value"] sdAR := ⟨_, _, ok_AR FAR m_isinstance m_tuple m_len cST cIW, hAR, FAR.kp, bAR⟩
  have cAE : Cal l.prog w K mg base 3 "_are_ends" ["size", "value"] sdAE := ⟨_, _, ok_AE FAE m_isinstance m_tuple m_len m_all m_set cST, hAE, FAE.kp, bAE⟩
  have cRA : Cal l.prog w K mg base 4 "_read_arrows" ["size", "arrows"] sdRA := ⟨_, _, ok_RA FRA m_isinstance m_tuple m_enumerate v_MOST_ARROWS cAR, hRA, FRA.kp, bRA⟩
  have MK : MkC l.prog w K mg base C := ⟨f22, _, ⟨mk, a22, i22, kc⟩, ok_MI FMI cl n1 n2 n3 n4 m_tuple m_sorted v_MOST_STATES cII cRA cAE, gC, b3, b2, b1, k1, k2⟩
  have e2 : MeC l.prog w K mg base C 1 "size" (sdG C fun n as es => .d (.int n)) := ⟨_, _, ⟨a23, i23, k23⟩, ok_MS FMS cl n1, bMS⟩
  have e3 : MeC l.prog w K mg base C 1 "arrows" (sdG C fun n as es => .d (.tup (sortD (as.map arD)))) := ⟨_, _, ⟨a24, i24, k24⟩, ok_MA FMA cl n3, bMA⟩
  have e4 : MeC l.prog w K mg base C 1 "ends" (sdG C fun n as es => .d (.tup (sortD (es.map D.int)))) := ⟨_, _, ⟨a25, i25, k25⟩, ok_ME FME cl n4, bME⟩
  have cCL : Cal l.prog w K mg base 2 "_check_length" ["length"] sdCL := ⟨_, _, ok_CL FCL v_LONGEST_ROW cII, hCL, FCL.kp, bCL⟩
  have cCo : Cal l.prog w K mg base 2 "_counts" ["machine", "length"] (sdCo C) := ⟨_, _, ok_Co FCo cl e2 e3 e4 m_range, hCo, FCo.kp, bCo⟩
  have cRC : Cal l.prog w K mg base 3 "rows_count" ["machine", "length"] (sdRC C) := ⟨_, _, ok_RC FRC cCL cCo, hRC, FRC.kp, bRC⟩
  have cSpr : Cal l.prog w K mg base 1 "_law_spring" ["script", "place"] sdSpr := ⟨_, _, ok_Spr FSpr m_int m_len m_max m_abs, hSpr, FSpr.kp, bSpr⟩
  have cRoll : Cal l.prog w K mg base 1 "_law_roll" ["spring", "many"] sdRoll := ⟨_, _, ok_Roll FRoll m_int, hRoll, FRoll.kp, bRoll⟩
  have cOf : Cal l.prog w K mg base 2 "_law_of" ["spring", "some"] sdOf := ⟨_, _, ok_Of FOf m_len cRoll, hOf, FOf.kp, bOf⟩
  have cWord : Cal l.prog w K mg base 3 "_law_word" ["spring"] sdWord := ⟨_, _, ok_Word FWord m_range cRoll cOf, hWord, FWord.kp, bWord⟩
  have cSigns : Cal l.prog w K mg base 4 "_law_signs" ["spring", "many"] sdSigns := ⟨_, _, ok_Signs FSigns m_range cRoll cOf cWord, hSigns, FSigns.kp, bSigns⟩
  have cPlan : Cal l.prog w K mg base 2 "_law_plan" ["spring", "words", "most"] sdPlan := ⟨_, _, ok_Plan FPlan m_range m_len m_tuple cRoll, hPlan, FPlan.kp, bPlan⟩
  have cTA : Cal l.prog w K mg base 1 "_take_arrow" ["arrows", "counts", "place"] sdTA := ⟨_, _, ok_TA FTA, hTA, FTA.kp, bTA⟩
  have cAt : Cal l.prog w K mg base 3 "row_at" ["machine", "length", "number"] (sdAt C) := ⟨_, _, ok_At FAt cl cCL cCo cII cTA e3 m_range m_reversed, hAt, FAt.kp, bAt⟩
  have cSR : Cal l.prog w K mg base 4 "shortest_row" ["machine"] (sdSR C) := ⟨_, _, ok_SR FSR cl m_range cRC cAt e2, hSR, FSR.kp, bSR⟩
  have cSK : CalK l.prog w K mg base 4 "shortest_row" ["machine"] ["machine"] (fun ts => ts) (sdSR C) := by
    refine ⟨_, _, ok_SR FSR cl m_range cRC cAt e2, hSR, FSR.kp, fun ws => ws, fun zs => zs, fun s ws _ hl => ?_, fun _ r => r, fun _ r => r⟩
    match ws, hl with
    | [_], _ => exact .of_eq rfl
  have cLe : Cal l.prog w K mg base 1 "_law_least" ["plan"] sdLe := ⟨_, _, ok_Le FLe m_range m_min, hLe, FLe.kp, bLe⟩
  have cRight : Cal l.prog w K mg base 7 "_law_right" ["spring"] sdRight := ⟨_, _, ok_Right FRight MK m_repr cRoll cOf cSigns cPlan cLe cSR cSK, hRight, FRight.kp, bRight⟩
  exact ok_Law FLaw m_range m_len m_max m_min (by decide) cSpr cRight
theorem sdLaw_all : ∀ zs : List Int, zs.length ≤ 63 → sdLaw [.d (.lst (zs.map D.int))] [] fun r _ => r = .d (.bl true) := fun zs h => ⟨zs, rfl, h, rfl, rfl⟩
end T

open PySem PySem.W PyProof.Rows
set_option maxRecDepth 100000 in
set_option maxHeartbeats 0 in
theorem PySem.Challenge.cw_whoselines_k07_shortest_rows_holds : PySem.Challenge.rw_whoselines_k07_shortest_rows.Holds := by
  w_on; o_law; k_head; (case hw => w_witness2)
  k_fill
  refine DL.walkG (l := PySem.Challenge.rw_whoselines_k07_shortest_rows) (n := 63) (k := 8) (x := "script") (sd := T.sdLaw) rfl (by decide) rfl ⟨rfl, by decide, by decide⟩ (fun w h Y => PySem.W.kIn_of Y) ?F T.sdLaw_all
  case F =>
    intro w mg fa h KX G hmg
    refine' T.all_mk KX G hmg ?a1 ?l1 ?c1 ?k1 ?a2 ?l2 ?c2 ?k2 ?a3 ?l3 ?c3 ?k3 ?a4 ?l4 ?c4 ?k4 ?a5 ?l5 ?c5 ?k5 ?a6 ?l6 ?c6 ?k6 ?a7 ?l7 ?c7 ?k7 ?a8 ?l8 ?c8 ?k8 ?a9 ?l9 ?c9 ?k9 ?a10 ?l10 ?c10 ?k10 ?a11 ?l11 ?c11 ?k11 ?a12 ?l12 ?c12 ?k12 ?a13 ?l13 ?c13 ?k13 ?a14 ?l14 ?c14 ?k14 ?a15 ?l15 ?c15 ?k15 ?a16 ?l16 ?c16 ?k16 ?a17 ?l17 ?c17 ?k17 ?a18 ?l18 ?c18 ?k18 ?a19 ?l19 ?c19 ?k19 ?a20 ?l20 ?c20 ?k20 ?a21 ?l21 ?c21 ?k21 ?aC ?a22 ?i22 ?l22 ?c22 ?k22 ?lT22 ?lt22_0 ?lt22_1 ?a23 ?i23 ?l23 ?c23 ?k23 ?a24 ?i24 ?l24 ?c24 ?k24 ?a25 ?i25 ?l25 ?c25 ?k25 ?pg ?hd ?po ?sa ?mk ?kc ?n1 ?n2 ?n3 ?n4 ?cst0 ?cst1 ?cst2 ?cst3 ?cst4 ?z_isinstance ?z_int ?z_bool ?z_str ?z_tuple ?z_len ?z_all ?z_set ?z_enumerate ?z_sorted ?z_range ?z_repr ?z_max ?z_min ?z_abs ?z_reversed
    (case a1 => k_is)
    (case l1 => k_is)
    (case c1 => k_is)
    (case k1 => k_is)
    (case a2 => k_is)
    (case l2 => k_is)
    (case c2 => k_is)
    (case k2 => k_is)
    (case a3 => k_is)
    (case l3 => k_is)
    (case c3 => k_is)
    (case k3 => k_is)
    (case a4 => k_is)
    (case l4 => k_is)
    (case c4 => k_is)
    (case k4 => k_is)
    (case a5 => k_is)
    (case l5 => k_is)
    (case c5 => k_is)
    (case k5 => k_is)
    (case a6 => k_is)
    (case l6 => k_is)
    (case c6 => k_is)
    (case k6 => k_is)
    (case a7 => k_is)
    (case l7 => k_is)
    (case c7 => k_is)
    (case k7 => k_is)
    (case a8 => k_is)
    (case l8 => k_is)
    (case c8 => k_is)
    (case k8 => k_is)
    (case a9 => k_is)
    (case l9 => k_is)
    (case c9 => k_is)
    (case k9 => k_is)
    (case a10 => k_is)
    (case l10 => k_is)
    (case c10 => k_is)
    (case k10 => k_is)
    (case a11 => k_is)
    (case l11 => k_is)
    (case c11 => k_is)
    (case k11 => k_is)
    (case a12 => k_is)
    (case l12 => k_is)
    (case c12 => k_is)
    (case k12 => k_is)
    (case a13 => k_is)
    (case l13 => k_is)
    (case c13 => k_is)
    (case k13 => k_is)
    (case a14 => k_is)
    (case l14 => k_is)
    (case c14 => k_is)
    (case k14 => k_is)
    (case a15 => k_is)
    (case l15 => k_is)
    (case c15 => k_is)
    (case k15 => k_is)
    (case a16 => k_is)
    (case l16 => k_is)
    (case c16 => k_is)
    (case k16 => k_is)
    (case a17 => k_is)
    (case l17 => k_is)
    (case c17 => k_is)
    (case k17 => k_is)
    (case a18 => k_is)
    (case l18 => k_is)
    (case c18 => k_is)
    (case k18 => k_is)
    (case a19 => k_is)
    (case l19 => k_is)
    (case c19 => k_is)
    (case k19 => k_is)
    (case a20 => k_is)
    (case l20 => k_is)
    (case c20 => k_is)
    (case k20 => k_is)
    (case a21 => k_is)
    (case l21 => k_is)
    (case c21 => k_is)
    (case k21 => k_is)
    (case aC => k_is)
    (case a22 => k_is)
    (case i22 => k_is)
    (case l22 => k_is)
    (case c22 => k_is)
    (case k22 => k_is)
    (case lT22 => k_is)
    (case lt22_0 => k_is)
    (case lt22_1 => k_is)
    (case a23 => k_is)
    (case i23 => k_is)
    (case l23 => k_is)
    (case c23 => k_is)
    (case k23 => k_is)
    (case a24 => k_is)
    (case i24 => k_is)
    (case l24 => k_is)
    (case c24 => k_is)
    (case k24 => k_is)
    (case a25 => k_is)
    (case i25 => k_is)
    (case l25 => k_is)
    (case c25 => k_is)
    (case k25 => k_is)
    (case pg => k_is)
    (case hd => k_is)
    (case po => k_is)
    (case sa => k_is)
    (case mk => k_is)
    (case kc => k_is)
    (case n1 => k_is)
    (case n2 => k_is)
    (case n3 => k_is)
    (case n4 => k_is)
    (case cst0 => k_is)
    (case cst1 => k_is)
    (case cst2 => k_is)
    (case cst3 => k_is)
    (case cst4 => k_is)
    (case z_isinstance => k_is)
    (case z_int => k_is)
    (case z_bool => k_is)
    (case z_str => k_is)
    (case z_tuple => k_is)
    (case z_len => k_is)
    (case z_all => k_is)
    (case z_set => k_is)
    (case z_enumerate => k_is)
    (case z_sorted => k_is)
    (case z_range => k_is)
    (case z_repr => k_is)
    (case z_max => k_is)
    (case z_min => k_is)
    (case z_abs => k_is)
    (case z_reversed => k_is)
#print axioms PySem.Challenge.cw_whoselines_k07_shortest_rows_holds
end
