import PyProof.Rows.All
import Wide.All
import OpenK.AllK
import Wide.FinOn
import HandS.ForMost
import HandS.IsInst
import HandS.Strs
import HandS.Wide
import HandS.Walk
import HandS.TupAny
import HandS.SetFor
import HandS.Evl
import KE.GoesEnum
import KE.GoesEnumKw
import HandS.FStr
import PySem.Challenge.RW_formalconcepts_k00_tables_are_written
set_option Elab.async false
set_option linter.all false
set_option maxRecDepth 100000
set_option maxHeartbeats 4000000
namespace Mo
open PySem PySem.Spec PyProof.Rows L2

abbrev D := PyData

/-! ### values as data -/
mutual
inductive Rep (mu : Addr → Prop) (H : Hp) : V → D → Prop
  | non : Rep mu H .non .none
  | bl (b : Bool) : Rep mu H (.bl b) (.bool b)
  | int (i : Int) : Rep mu H (.int i) (.int i)
  | str (x : Str) : Rep mu H (.str x) (.str x)
  | lst {a : Addr} {xs : List V} {ds : List D} : ¬ mu a → H a = some (.lst xs) → RepAll mu H xs ds → Rep mu H (.ref a) (.list ds)
  | tup {a : Addr} {xs : List V} {ds : List D} : ¬ mu a → H a = some (.tup xs) → RepAll mu H xs ds → Rep mu H (.ref a) (.tuple ds)
inductive RepAll (mu : Addr → Prop) (H : Hp) : List V → List D → Prop
  | nil : RepAll mu H [] []
  | cons {v : V} {vs : List V} {d : D} {ds : List D} : Rep mu H v d → RepAll mu H vs ds → RepAll mu H (v :: vs) (d :: ds)
end

/-- the mask and the heap may change so that what is read stays -/
def Stays (mu mu' : Addr → Prop) (H H' : Hp) : Prop := ∀ a u, ¬ mu a → H a = some u → ¬ mu' a ∧ H' a = some u
mutual
theorem Rep.stays {mu mu' : Addr → Prop} {H H' : Hp} (s : Stays mu mu' H H') : ∀ (d : D) (v : V), Rep mu H v d → Rep mu' H' v d
  | .none, _, h => by cases h; exact .non
  | .bool b, _, h => by cases h; exact .bl b
  | .int i, _, h => by cases h; exact .int i
  | .str x, _, h => by cases h; exact .str x
  | .list ds, _, h => by
    cases h with
    | lst h1 h2 h3 => exact .lst (s _ _ h1 h2).1 (s _ _ h1 h2).2 (RepAll.stays s ds _ h3)
  | .tuple ds, _, h => by
    cases h with
    | tup h1 h2 h3 => exact .tup (s _ _ h1 h2).1 (s _ _ h1 h2).2 (RepAll.stays s ds _ h3)
  | .dict kvs, _, h => nomatch h
theorem RepAll.stays {mu mu' : Addr → Prop} {H H' : Hp} (s : Stays mu mu' H H') : ∀ (ds : List D) (vs : List V), RepAll mu H vs ds → RepAll mu' H' vs ds
  | [], _, h => by cases h; exact .nil
  | d :: ds, _, h => by
    cases h with
    | cons h1 h2 => exact .cons (Rep.stays s d _ h1) (RepAll.stays s ds _ h2)
end
theorem RepAll.length {mu : Addr → Prop} {H : Hp} : ∀ {vs : List V} {ds : List D}, RepAll mu H vs ds → vs.length = ds.length
  | _, _, .nil => rfl
  | _, _, .cons _ t => by rw [List.length_cons, List.length_cons, RepAll.length t]
theorem RepAll.get {mu : Addr → Prop} {H : Hp} : ∀ {vs : List V} {ds : List D} {i : Nat} {d : D}, RepAll mu H vs ds → ds[i]? = some d → ∃ v, vs[i]? = some v ∧ Rep mu H v d
  | _, _, _, _, .nil, e => by simp at e
  | _, _, 0, _, .cons r _, e => by simp at e; subst e; exact ⟨_, rfl, r⟩
  | _, _, i + 1, d, .cons _ t, e => by
    obtain ⟨u, h1, h2⟩ := RepAll.get (i := i) (d := d) t (by simpa using e)
    exact ⟨u, by simpa using h1, h2⟩
theorem RepAll.getV {mu : Addr → Prop} {H : Hp} : ∀ {vs : List V} {ds : List D} {i : Nat} {v : V}, RepAll mu H vs ds → vs[i]? = some v → ∃ d, ds[i]? = some d ∧ Rep mu H v d
  | _, _, _, _, .nil, e => by simp at e
  | _, _, 0, _, .cons r _, e => by simp at e; subst e; exact ⟨_, rfl, r⟩
  | _, _, i + 1, d, .cons _ t, e => by
    obtain ⟨u, h1, h2⟩ := RepAll.getV (i := i) (v := d) t (by simpa using e)
    exact ⟨u, by simpa using h1, h2⟩
theorem RepAll.append {mu : Addr → Prop} {H : Hp} : ∀ {vs us : List V} {ds es : List D}, RepAll mu H vs ds → RepAll mu H us es → RepAll mu H (vs ++ us) (ds ++ es)
  | _, _, _, _, .nil, s => s
  | _, _, _, _, .cons r t, s => .cons r (RepAll.append t s)
theorem RepAll.ints {mu : Addr → Prop} {H : Hp} : ∀ ns : List Int, RepAll mu H (ns.map V.int) (ns.map PyData.int)
  | [] => .nil
  | n :: r => .cons (.int n) (RepAll.ints r)
theorem RepAll.take {mu : Addr → Prop} {H : Hp} : ∀ {vs : List V} {ds : List D} (n : Nat), RepAll mu H vs ds → RepAll mu H (vs.take n) (ds.take n)
  | _, _, 0, _ => .nil
  | _, _, _ + 1, .nil => .nil
  | _, _, n + 1, .cons r t => .cons r (RepAll.take n t)
theorem RepAll.drop {mu : Addr → Prop} {H : Hp} : ∀ {vs : List V} {ds : List D} (n : Nat), RepAll mu H vs ds → RepAll mu H (vs.drop n) (ds.drop n)
  | _, _, 0, r => r
  | _, _, _ + 1, .nil => .nil
  | _, _, n + 1, .cons _ t => RepAll.drop n t

/-! ### the world: what is hidden, and the box that is drawn from -/
structure Wd where
  mu : Addr → Prop
  bx : Option Addr
  dl : Addr
  dg : List Int
def Box (W : Wd) (H : Hp) (b : Addr) : Prop := ∃ n : Nat, H b = some (.lst [.ref W.dl, .int n]) ∧ H W.dl = some (.lst (W.dg.map V.int))
def Wd.Ok (W : Wd) (H : Hp) : Prop := (∀ a, W.mu a → ∃ o, H a = some o) ∧ ∀ b, W.bx = some b → W.mu b ∧ Box W H b
def Wd.Le (W : Wd) (H H' : Hp) : Prop := ∀ a o, H a = some o → (W.bx ≠ some a → H' a = some o) ∧ ∃ o', H' a = some o'
theorem Wd.Le.refl {W : Wd} (H : Hp) : W.Le H H := fun _ o h => ⟨fun _ => h, o, h⟩
theorem Wd.Le.trans {W : Wd} {H H1 H2 : Hp} (a : W.Le H H1) (b : W.Le H1 H2) : W.Le H H2 := fun x o h => by
  obtain ⟨h1, o1, h2⟩ := a x o h
  obtain ⟨_, h4⟩ := b x o1 h2
  exact ⟨fun n => (b x o (h1 n)).1 n, h4⟩
def Ex (H H' : Hp) : Prop := ∀ a o, H a = some o → H' a = some o
theorem Ex.refl (H : Hp) : Ex H H := fun _ _ h => h
theorem Ex.trans {H H1 H2 : Hp} (a : Ex H H1) (b : Ex H1 H2) : Ex H H2 := fun x o h => b x o (a x o h)
theorem Ex.new {H : Hp} {p : Addr} {o : HO} (h : H p = none) : Ex H (upd H p o) := fun a u e => by
  rw [upd_ne (ne_of_none e h)]
  exact e
theorem Ex.le {W : Wd} {H H' : Hp} (e : Ex H H') : W.Le H H' := fun a o h => ⟨fun _ => e a o h, o, e a o h⟩
theorem Box.ex {W : Wd} {H H' : Hp} {b : Addr} (e : Ex H H') (h : Box W H b) : Box W H' b := by
  obtain ⟨n, h1, h2⟩ := h
  exact ⟨n, e _ _ h1, e _ _ h2⟩
theorem Wd.Ok.ex {W : Wd} {H H' : Hp} (k : W.Ok H) (e : Ex H H') : W.Ok H' :=
  ⟨fun a h => let ⟨o, q⟩ := k.1 a h; ⟨o, e a o q⟩, fun b h => ⟨(k.2 b h).1, (k.2 b h).2.ex e⟩⟩
theorem Wd.Ok.fresh {W : Wd} {H : Hp} (k : W.Ok H) {p : Addr} (h : H p = none) : ¬ W.mu p := fun q => by
  obtain ⟨o, e⟩ := k.1 p q
  rw [h] at e
  cases e
theorem Wd.Ok.nbx {W : Wd} {H : Hp} (k : W.Ok H) {p : Addr} (h : ¬ W.mu p) : W.bx ≠ some p := fun q => h (k.2 p q).1
theorem Wd.Le.stays {W : Wd} {H H' : Hp} (k : W.Ok H) (e : W.Le H H') : Stays W.mu W.mu H H' := fun a u h r => ⟨h, (e a _ r).1 (k.nbx h)⟩
theorem Rep.le {W : Wd} {H H' : Hp} {v : V} {d : D} (k : W.Ok H) (e : W.Le H H') (h : Rep W.mu H v d) : Rep W.mu H' v d := Rep.stays (e.stays k) d v h
theorem RepAll.le {W : Wd} {H H' : Hp} {v : List V} {d : List D} (k : W.Ok H) (e : W.Le H H') (h : RepAll W.mu H v d) : RepAll W.mu H' v d := RepAll.stays (e.stays k) d v h
theorem sqL_of {K : PySem.W.Frag} {H : Hp} {a : Addr} {xs : List V} (h : H a = some (.lst xs)) : SqL K H a xs := .inl (.inl h)
theorem sqT_of {K : PySem.W.Frag} {H : Hp} {a : Addr} {xs : List V} (h : H a = some (.tup xs)) : SqT K H a xs := .inl (.inl h)

/-! ### slots -/
inductive S where
  | un
  | d (x : D)
  | box
  | own (xs : List D)
abbrev Rho := List S
def RepS (W : Wd) (H : Hp) (c : Option (Option V)) : S → Prop
  | .un => True
  | .d x => ∃ v, c = some (some v) ∧ Rep W.mu H v x
  | .box => ∃ b, W.bx = some b ∧ c = some (some (.ref b))
  | .own xs => ∃ p vs, c = some (some (.ref p)) ∧ W.mu p ∧ W.bx ≠ some p ∧ H p = some (.lst vs) ∧ RepAll W.mu H vs xs
structure RepE (W : Wd) (H : Hp) (σ : L2.St) (ρ : Rho) : Prop where
  len : ρ.length = σ.length
  at_ : ∀ (i : Nat) (s : S), ρ[i]? = some s → RepS W H σ[i]? s
theorem RepS.le {W : Wd} {H H' : Hp} {c : Option (Option V)} {s : S} (k : W.Ok H) (e : W.Le H H') (h : RepS W H c s) : RepS W H' c s := by
  cases s with
  | un => trivial
  | d x => obtain ⟨v, h1, h2⟩ := h; exact ⟨v, h1, h2.le k e⟩
  | box => exact h
  | own xs => obtain ⟨p, vs, h1, h2, h3, h4, h5⟩ := h; exact ⟨p, vs, h1, h2, h3, (e p _ h4).1 h3, h5.le k e⟩
theorem RepE.le {W : Wd} {H H' : Hp} {σ : L2.St} {ρ : Rho} (k : W.Ok H) (e : W.Le H H') (h : RepE W H σ ρ) : RepE W H' σ ρ :=
  ⟨h.len, fun i s q => (h.at_ i s q).le k e⟩
theorem RepE.set {W : Wd} {H : Hp} {σ : L2.St} {ρ : Rho} {i : Nat} {v : V} {x : D} (h : RepE W H σ ρ) (r : Rep W.mu H v x) : RepE W H (σ.set i (some v)) (ρ.set i (.d x)) := by
  refine ⟨by rw [List.length_set, List.length_set, h.len], fun j s q => ?_⟩
  by_cases e : i = j
  · subst e
    have hl : i < ρ.length := by
      have := (List.getElem?_eq_some_iff.mp q).1
      rwa [List.length_set] at this
    rw [List.getElem?_set_self hl] at q
    cases q
    refine ⟨v, ?_, r⟩
    rw [List.getElem?_set_self (by rw [← h.len]; exact hl)]
  · rw [List.getElem?_set_ne e] at q
    rw [List.getElem?_set_ne e]
    exact h.at_ j s q
theorem RepE.unset {W : Wd} {H : Hp} {σ : L2.St} {ρ : Rho} {i : Nat} {v : Option V} (h : RepE W H σ ρ) : RepE W H (σ.set i v) (ρ.set i .un) := by
  refine ⟨by rw [List.length_set, List.length_set, h.len], fun j s q => ?_⟩
  by_cases e : i = j
  · subst e
    have hl : i < ρ.length := by
      have := (List.getElem?_eq_some_iff.mp q).1
      rwa [List.length_set] at this
    rw [List.getElem?_set_self hl] at q
    cases q
    trivial
  · rw [List.getElem?_set_ne e] at q
    rw [List.getElem?_set_ne e]
    exact h.at_ j s q
def wipeS (ρ : Rho) : List Nat → Rho
  | [] => ρ
  | v :: vs => (wipeS ρ vs).set v .un
theorem RepE.wipe {W : Wd} {H : Hp} {σ : L2.St} {ρ : Rho} (h : RepE W H σ ρ) : ∀ vs : List Nat, RepE W H (wipe σ vs) (wipeS ρ vs)
  | [] => h
  | v :: vs => (h.wipe vs).unset

/-! ### what is asked, without a heap -/
abbrev WE := Rho → (D → Prop) → Prop
abbrev WT := Rho → (Bool → Prop) → Prop
abbrev WA := Rho → (List D → Prop) → Prop
abbrev WC := Rho → (List S → Prop) → Prop
abbrev WI := Rho → (List D → Prop) → Prop
abbrev WG := D → Rho → (Rho → Prop) → Prop
def SE (t : TE) (m : WE) : Prop := ∀ (W : Wd) (ρ : Rho) (σ : L2.St) (H : Hp) (Q : D → Prop), W.Ok H → RepE W H σ ρ → m ρ Q → ∀ Qh : VK, (∀ d v H', Q d → W.Le H H' → W.Ok H' → Rep W.mu H' v d → Qh v H') → t σ H Qh
def ST (t : TT) (m : WT) : Prop := ∀ (W : Wd) (ρ : Rho) (σ : L2.St) (H : Hp) (Q : Bool → Prop), W.Ok H → RepE W H σ ρ → m ρ Q → ∀ Qh : Bool → Hp → Prop, (∀ b H', Q b → W.Le H H' → W.Ok H' → Qh b H') → t σ H Qh
def SA (t : TA) (m : WA) : Prop := ∀ (W : Wd) (ρ : Rho) (σ : L2.St) (H : Hp) (Q : List D → Prop), W.Ok H → RepE W H σ ρ → m ρ Q → ∀ Qh : List V → Hp → Prop, (∀ ds vs H', Q ds → W.Le H H' → W.Ok H' → RepAll W.mu H' vs ds → Qh vs H') → t σ H Qh
inductive RepSs (W : Wd) (H : Hp) : List V → List S → Prop
  | nil : RepSs W H [] []
  | cons {v : V} {s : S} {vs : List V} {ss : List S} : RepS W H (some (some v)) s → RepSs W H vs ss → RepSs W H (v :: vs) (s :: ss)
theorem RepSs.le {W : Wd} {H H' : Hp} (k : W.Ok H) (e : W.Le H H') : ∀ {vs : List V} {ss : List S}, RepSs W H vs ss → RepSs W H' vs ss
  | _, _, .nil => .nil
  | _, _, .cons r t => .cons (r.le k e) (RepSs.le k e t)
theorem RepSs.length {W : Wd} {H : Hp} : ∀ {vs : List V} {ss : List S}, RepSs W H vs ss → vs.length = ss.length
  | _, _, .nil => rfl
  | _, _, .cons _ t => by rw [List.length_cons, List.length_cons, RepSs.length t]
def SC (t : TA) (m : WC) : Prop := ∀ (W : Wd) (ρ : Rho) (σ : L2.St) (H : Hp) (Q : List S → Prop), W.Ok H → RepE W H σ ρ → m ρ Q → ∀ Qh : List V → Hp → Prop, (∀ ss vs H', Q ss → W.Le H H' → W.Ok H' → RepSs W H' vs ss → Qh vs H') → t σ H Qh

structure ME (X : Cx) (e : Expr) (t : TE) (m : WE) : Prop where
  pe : PE X e t
  se : SE t m
structure MT (X : Cx) (e : Expr) (t : TT) (m : WT) : Prop where
  pt : PT X e t
  st : ST t m
structure MW (X : Cx) (e : Expr) (t : TT) (m : WT) : Prop where
  pw : PW X e t
  st : ST t m
structure MA (X : Cx) (es : List Expr) (t : TA) (m : WA) : Prop where
  pa : PA X es t
  sa : SA t m
structure MC (X : Cx) (es : List Expr) (t : TA) (m : WC) : Prop where
  pa : PA X es t
  sc : SC t m

/-! ### names and constants -/
def wVar (i : Nat) : WE := fun ρ Q => ∃ d, ρ[i]? = some (.d d) ∧ Q d
def wC (d : D) : WE := fun _ Q => Q d
theorem se_var (i : Nat) : SE (tVar i) (wVar i) := fun W ρ σ H Q k r h Qh q => by
  obtain ⟨d, h1, h2⟩ := h
  obtain ⟨v, h3, h4⟩ := r.at_ i _ h1
  exact ⟨v, h3, q d v H h2 (.refl H) k h4⟩
section
variable {X : Cx}
theorem mv (i : Nat) {x : Str} {pos : Pos} (hN : X.N[i]? = some x := by rfl) (hv : Vis X.env.scope x := by first | exact Or.inl rfl | exact Or.inr (Or.inl rfl) | exact Or.inr (Or.inr rfl)) (hd : (x == ("__debug__" : Str)) = false := by decide)
    (hcd : (x == ("__classdict__" : Str)) = false := by decide) : ME X (.Name x pos) (tVar i) (wVar i) := ⟨pe_var hN hv hd hcd, se_var i⟩
theorem se_c {v : V} {d : D} (h : ∀ mu H, Rep mu H v d) : SE (tC v) (wC d) := fun W ρ σ H Q k r q Qh g => g d v H q (.refl H) k (h _ _)
theorem m_int {i : Int} {j pos} : ME X (.Constant (.int i) j pos) (tC (.int i)) (wC (.int i)) := ⟨pe_int, se_c fun _ _ => .int i⟩
theorem m_bl {b : Bool} {j pos} : ME X (.Constant (.bool b) j pos) (tC (.bl b)) (wC (.bool b)) := ⟨pe_bl, se_c fun _ _ => .bl b⟩
theorem m_non {j pos} : ME X (.Constant .none j pos) (tC .non) (wC .none) := ⟨pe_non, se_c fun _ _ => .non⟩
theorem m_str {x : Str} {j pos} : ME X (.Constant (.str x) j pos) (tC (.str x)) (wC (.str x)) := ⟨pe_str, se_c fun _ _ => .str x⟩
theorem m_globI {x : Str} {i : Int} {t : Tok} {pos : Pos} (hg : Gl X x) (hm : X.mg x = some (.int i t)) (hd : (x == ("__debug__" : Str)) = false := by decide) : ME X (.Name x pos) (tC (.int i)) (wC (.int i)) := ⟨pe_glob hg hm ⟨_, rfl⟩ hd, se_c fun _ _ => .int i⟩
theorem m_globS {x : Str} {i : Str} {t : Tok} {pos : Pos} (hg : Gl X x) (hm : X.mg x = some (.str i t)) (hd : (x == ("__debug__" : Str)) = false := by decide) : ME X (.Name x pos) (tC (.str i)) (wC (.str i)) := ⟨pe_glob hg hm ⟨_, rfl⟩ hd, se_c fun _ _ => .str i⟩

/-! ### arguments -/
def wNil : WA := fun _ Q => Q []
def wCons (m : WE) (r : WA) : WA := fun ρ Q => m ρ fun d => r ρ fun ds => Q (d :: ds)
theorem ma_nil : MA X [] tNil wNil := ⟨pa_nil, fun W ρ σ H Q k r h Qh q => q [] [] H h (.refl H) k .nil⟩
theorem ma_cons {e : Expr} {es : List Expr} {te : TE} {t : TA} {m : WE} {r : WA} (ha : ME X e te m) (hr : MA X es t r) (hs : starEach (e :: es) X.env = (false, eval e X.env) :: starEach es X.env := by rfl) : MA X (e :: es) (tCons te t) (wCons m r) :=
  ⟨pa_cons ha.pe hr.pa hs, fun W ρ σ H Q k re h Qh q => ha.se W ρ σ H _ k re h _ fun d v H1 h1 l1 k1 r1 => hr.sa W ρ σ H1 _ k1 (re.le k l1) h1 _ fun ds vs H2 h2 l2 k2 r2 => q (d :: ds) (v :: vs) H2 h2 (l1.trans l2) k2 (.cons (r1.le k1 l2) r2)⟩
def cNil : WC := fun _ Q => Q []
def cCons (m : WE) (r : WC) : WC := fun ρ Q => m ρ fun d => r ρ fun ds => Q (.d d :: ds)
def cBox (i : Nat) (r : WC) : WC := fun ρ Q => ρ[i]? = some .box ∧ r ρ fun ds => Q (.box :: ds)
theorem mc_nil : MC X [] tNil cNil := ⟨pa_nil, fun W ρ σ H Q k r h Qh q => q [] [] H h (.refl H) k .nil⟩
theorem mc_cons {e : Expr} {es : List Expr} {te : TE} {t : TA} {m : WE} {r : WC} (ha : ME X e te m) (hr : MC X es t r) (hs : starEach (e :: es) X.env = (false, eval e X.env) :: starEach es X.env := by rfl) : MC X (e :: es) (tCons te t) (cCons m r) :=
  ⟨pa_cons ha.pe hr.pa hs, fun W ρ σ H Q k re h Qh q => ha.se W ρ σ H _ k re h _ fun d v H1 h1 l1 k1 r1 => hr.sc W ρ σ H1 _ k1 (re.le k l1) h1 _ fun ds vs H2 h2 l2 k2 r2 => q (.d d :: ds) (v :: vs) H2 h2 (l1.trans l2) k2 (.cons ⟨v, rfl, r1.le k1 l2⟩ r2)⟩
theorem mc_box (i : Nat) {x : Str} {pos : Pos} {es : List Expr} {t : TA} {r : WC} (hr : MC X es t r) (hN : X.N[i]? = some x := by rfl) (hv : Vis X.env.scope x := by first | exact Or.inl rfl | exact Or.inr (Or.inl rfl) | exact Or.inr (Or.inr rfl)) (hd : (x == ("__debug__" : Str)) = false := by decide)
    (hcd : (x == ("__classdict__" : Str)) = false := by decide) (hs : starEach (.Name x pos :: es) X.env = (false, eval (.Name x pos) X.env) :: starEach es X.env := by rfl) : MC X (.Name x pos :: es) (tCons (tVar i) t) (cBox i r) :=
  ⟨pa_cons (pe_var hN hv hd hcd) hr.pa hs, fun W ρ σ H Q k re h Qh q => by
    obtain ⟨h1, h2⟩ := h
    obtain ⟨b, h3, h4⟩ := re.at_ i _ h1
    exact ⟨.ref b, h4, hr.sc W ρ σ H _ k re h2 _ fun ds vs H2 g2 l2 k2 r2 => q (.box :: ds) (.ref b :: vs) H2 g2 l2 k2 (.cons ⟨b, h3, rfl⟩ r2)⟩⟩

/-! ### calls of defs -/
/-- a def's promise from what is asked of data -/
def spD (f : List S → (D → Prop) → Prop) : Sp := fun vs H Q _ => ∃ (W : Wd) (ss : List S) (Qd : D → Prop), W.Ok H ∧ RepSs W H vs ss ∧ f ss Qd ∧ ∀ d v H', Qd d → W.Le H H' → W.Ok H' → Rep W.mu H' v d → Q v H'
def wCall (f : List S → (D → Prop) → Prop) (c : WC) : WE := fun ρ Q => c ρ fun ss => f ss Q
theorem se_call {f : List S → (D → Prop) → Prop} {t : TA} {c : WC} {E : XK} (h : SC t c) : SE (tCall (spD f) [] E t) (wCall f c) := fun W ρ σ H Q k re hq Qh q =>
  h W ρ σ H _ k re hq _ fun ss vs H1 g l1 k1 r1 => by
    show spD f (vs ++ []) H1 Qh E
    rw [List.append_nil]
    exact ⟨W, ss, Q, k1, r1, g, fun d v H2 q2 l2 k2 r2 => q d v H2 q2 (l1.trans l2) k2 r2⟩
theorem m_call {CX : CXT} {k : Nat} {f : Addr} {fd : FuncData} {ps : List Str} {w : List S → (D → Prop) → Prop} {x : Str} {e : Expr} {es : List Expr} {t : TA} {c : WC} {E : XK} {p pos : Pos}
    (F : FnOk X.prog X.w X.K X.mg X.base CX k f fd ps (spD w)) (hr : Room k X.A) (hg : Gl X x) (hm : X.mg x = some (.ref f)) (hk : PySem.W.keepIn X.K (.ref f) = true) (hb : Binds X.K fd ps []) (hx : Passes CX X E) (ha : MC X (e :: es) t c) (hd : (x == ("__debug__" : Str)) = false := by decide)
    (he : starEach (e :: es) X.env = (false, eval e X.env) :: starEach es X.env := by rfl) (hpl : (backTo pos (starEach es X.env)).any (·.1) = false := by rfl) :
    ME X (.Call (.Name x p) (e :: es) [] pos) (tCall (spD w) [] E t) (wCall w c) := ⟨pe_call F hr hg hm hk hb .nil hx ha.pa hd he hpl, se_call ha.sc⟩
end
end Mo

namespace Mo
open PySem PySem.Spec PyProof.Rows L2

/-! ### operators on data -/
abbrev F2 := D → D → (D → Prop) → Prop
def SR (r : R2) (f : F2) : Prop := ∀ (W : Wd) (H : Hp) (x y : V) (d e : D) (Q : D → Prop), W.Ok H → Rep W.mu H x d → Rep W.mu H y e → f d e Q → ∀ Qh : VK, (∀ z v H', Q z → W.Le H H' → W.Ok H' → Rep W.mu H' v z → Qh v H') → r x y H Qh
def F1 := D → (D → Prop) → Prop
def wOp (f : F2) (a b : WE) : WE := fun ρ Q => a ρ fun d => b ρ fun e => f d e Q
theorem se_op {r : R2} {f : F2} {ta tb : TE} {a b : WE} (h : SR r f) (ha : SE ta a) (hb : SE tb b) : SE (tOp r ta tb) (wOp f a b) := fun W ρ σ H Q k re g Qh q =>
  ha W ρ σ H _ k re g _ fun d x H1 g1 l1 k1 r1 => hb W ρ σ H1 _ k1 (re.le k l1) g1 _ fun e y H2 g2 l2 k2 r2 => h W H2 x y d e Q k2 (r1.le k1 l2) r2 g2 Qh fun z v H3 qz l3 k3 r3 => q z v H3 qz ((l1.trans l2).trans l3) k3 r3
theorem SR.or {r r' : R2} {f f' : F2} (h : SR r f) (h' : SR r' f') : SR (fun x y H Q => r x y H Q ∨ r' x y H Q) (fun d e Q => f d e Q ∨ f' d e Q) := fun W H x y d e Q k rx ry g Qh q => by
  rcases g with g | g
  · exact .inl (h W H x y d e Q k rx ry g Qh q)
  · exact .inr (h' W H x y d e Q k rx ry g Qh q)
def fI0 (g : Int → Int → D) : F2 := fun d e Q => ∃ i j, d = .int i ∧ e = .int j ∧ Q (g i j)
def fI (C : Int → Int → Prop) (g : Int → Int → D) : F2 := fun d e Q => ∃ i j, d = .int i ∧ e = .int j ∧ C i j ∧ Q (g i j)
theorem sr_I0 {g : Int → Int → V} {g' : Int → Int → D} (h : ∀ mu H i j, Rep mu H (g i j) (g' i j)) : SR (rI0 g) (fI0 g') := fun W H x y d e Q k rx ry f Qh q => by
  obtain ⟨i, j, rfl, rfl, f⟩ := f
  cases rx
  cases ry
  exact ⟨i, j, rfl, rfl, q _ _ H f (.refl H) k (h _ _ _ _)⟩
theorem sr_I {C : Int → Int → Prop} {g : Int → Int → V} {g' : Int → Int → D} (h : ∀ mu H i j, Rep mu H (g i j) (g' i j)) : SR (rI C g) (fI C g') := fun W H x y d e Q k rx ry f Qh q => by
  obtain ⟨i, j, rfl, rfl, c, f⟩ := f
  cases rx
  cases ry
  exact ⟨i, j, rfl, rfl, c, q _ _ H f (.refl H) k (h _ _ _ _)⟩
def rAddS : R2 := fun x y H Q => ∃ i j, x = .str i ∧ y = .str j ∧ i.length + j.length ≤ sizeLine ∧ Q (.str (i ++ j)) H
def fAddS : F2 := fun d e Q => ∃ i j, d = .str i ∧ e = .str j ∧ i.length + j.length ≤ sizeLine ∧ Q (.str (i ++ j))
theorem sr_addS : SR rAddS fAddS := fun W H x y d e Q k rx ry f Qh q => by
  obtain ⟨i, j, rfl, rfl, c, f⟩ := f
  cases rx
  cases ry
  exact ⟨i, j, rfl, rfl, c, q _ _ H f (.refl H) k (.str _)⟩
theorem ok_new {W : Wd} {H : Hp} {p : Addr} {o : HO} (k : W.Ok H) (h : H p = none) : W.Ok (upd H p o) := k.ex (Ex.new h)
theorem rep_tup {W : Wd} {H : Hp} {p : Addr} {xs : List V} {ds : List D} (k : W.Ok H) (h : H p = none) (r : RepAll W.mu H xs ds) : Rep W.mu (upd H p (.tup xs)) (.ref p) (.tuple ds) :=
  .tup (k.fresh h) upd_same (r.le k (Ex.le (Ex.new h)))
theorem rep_lst {W : Wd} {H : Hp} {p : Addr} {xs : List V} {ds : List D} (k : W.Ok H) (h : H p = none) (r : RepAll W.mu H xs ds) : Rep W.mu (upd H p (.lst xs)) (.ref p) (.list ds) :=
  .lst (k.fresh h) upd_same (r.le k (Ex.le (Ex.new h)))
theorem RepAll.nil_iff {mu : Addr → Prop} {H : Hp} {xs : List V} {ds : List D} (r : RepAll mu H xs ds) : xs = [] ↔ ds = [] := by
  cases r with
  | nil => exact ⟨fun _ => rfl, fun _ => rfl⟩
  | cons _ _ => exact ⟨fun h => (nomatch h), fun h => (nomatch h)⟩
def fAddT : F2 := fun d e Q => ∃ xs ys, d = .tuple xs ∧ e = .tuple ys ∧ xs.length + ys.length ≤ sizeLine ∧ Q (.tuple (xs ++ ys))
theorem sr_addT {K : PySem.W.Frag} : SR (rCatA K) fAddT := fun W H x y d e Q k rx ry f Qh q => by
  obtain ⟨ds, es, rfl, rfl, c, f⟩ := f
  cases rx with
  | @tup a xs _ h1 h2 h3 =>
    cases ry with
    | @tup b ys _ g1 g2 g3 =>
      refine ⟨a, b, xs, ys, rfl, rfl, sqT_of h2, sqT_of g2, by rw [h3.length, g3.length]; exact c, fun e => ?_, fun _ e => ?_, fun _ _ p hp => ?_⟩
      · have e2 := h3.nil_iff.mp e
        subst e2
        exact q _ _ H f (.refl H) k (.tup g1 g2 g3)
      · have e2 := g3.nil_iff.mp e
        subst e2
        rw [List.append_nil] at f
        exact q _ _ H f (.refl H) k (.tup h1 h2 h3)
      · exact q _ _ _ f (Ex.le (Ex.new hp)) (ok_new k hp) (rep_tup k hp (h3.append g3))
def fAddL : F2 := fun d e Q => ∃ xs ys, d = .list xs ∧ e = .list ys ∧ xs.length + ys.length ≤ sizeLine ∧ Q (.list (xs ++ ys))
theorem sr_addL : SR rCat fAddL := fun W H x y d e Q k rx ry f Qh q => by
  obtain ⟨ds, es, rfl, rfl, c, f⟩ := f
  cases rx with
  | @lst a xs _ h1 h2 h3 =>
    cases ry with
    | @lst b ys _ g1 g2 g3 => exact ⟨a, b, xs, ys, rfl, rfl, h2, g2, by rw [h3.length, g3.length]; exact c, fun p hp => q _ _ _ f (Ex.le (Ex.new hp)) (ok_new k hp) (rep_lst k hp (h3.append g3))⟩
/-- == and != of data -/
theorem Rep.dp {K : PySem.W.Frag} {mu : Addr → Prop} {H : Hp} : ∀ (d : D) (v : V), Rep mu H v d → Dp K H v d := by
  intro d v h
  exact Rep.rec (motive_1 := fun v d _ => Dp K H v d) (motive_2 := fun vs ds _ => DpAll K H vs ds) .non (fun b => .bl b) (fun i => .int i) (fun x => .str x) (fun _ h2 _ ih => .lst (sqL_of h2) ih) (fun _ h2 _ ih => .tup (sqT_of h2) ih) .nil (fun _ _ h1 h2 => .cons h1 h2) h
def fEq : F2 := fun d e Q => SeqAt.shaped d = true ∧ SeqAt.shaped e = true ∧ Q (.bool (PyData.eqv d e))
def fNe : F2 := fun d e Q => SeqAt.shaped d = true ∧ SeqAt.shaped e = true ∧ Q (.bool (!PyData.eqv d e))
theorem sr_eq {K : PySem.W.Frag} : SR (rEqD K) fEq := fun W H x y d e Q k rx ry f Qh q => ⟨d, e, rx.dp _ _, ry.dp _ _, f.1, f.2.1, q _ _ H f.2.2 (.refl H) k (.bl _)⟩
theorem sr_ne {K : PySem.W.Frag} : SR (rNeD K) fNe := fun W H x y d e Q k rx ry f Qh q => ⟨d, e, rx.dp _ _, ry.dp _ _, f.1, f.2.1, q _ _ H f.2.2 (.refl H) k (.bl _)⟩
/-- in, not in -/
def flatD : D → Bool
  | .none => true
  | .bool _ => true
  | .int _ => true
  | .str _ => true
  | _ => false
theorem flat_rep {mu : Addr → Prop} {H : Hp} {v : V} {d : D} (r : Rep mu H v d) : flatV v = flatD d := by cases r <;> rfl
theorem eqV_rep {mu : Addr → Prop} {H : Hp} {v u : V} {d e : D} (r : Rep mu H v d) (q : Rep mu H u e) (fd : flatD d = true) (fe : flatD e = true) : eqV v u = PyData.eqv d e := by
  cases r <;> first | (cases fd; done) | skip
  all_goals cases q <;> first | (cases fe; done) | rfl
theorem all_rep {mu : Addr → Prop} {H : Hp} : ∀ {vs : List V} {ds : List D}, RepAll mu H vs ds → vs.all flatV = ds.all flatD
  | _, _, .nil => rfl
  | _, _, .cons r t => by rw [List.all_cons, List.all_cons, flat_rep r, all_rep t]
def inD (d : D) (ds : List D) : Bool := ds.any fun e => PyData.eqv e d
theorem in_rep {mu : Addr → Prop} {H : Hp} {v : V} {d : D} (r : Rep mu H v d) (fd : flatD d = true) : ∀ {vs : List V} {ds : List D}, RepAll mu H vs ds → ds.all flatD = true → inV v vs = inD d ds
  | _, _, .nil, _ => rfl
  | x :: vs, e :: ds, .cons h t, f => by
    rw [List.all_cons, Bool.and_eq_true] at f
    have ih := in_rep r fd t f.2
    unfold inV inD at ih ⊢
    rw [List.any_cons, List.any_cons, ih, eqV_rep h r f.1 fd]
def fIn (neg : Bool) : F2 := fun d e Q => ∃ ds, (e = .tuple ds ∨ e = .list ds) ∧ flatD d = true ∧ ds.all flatD = true ∧ Q (.bool (if neg then !inD d ds else inD d ds))
theorem sr_in {K : PySem.W.Frag} {neg : Bool} : SR (rIn K neg) (fIn neg) := fun W H x y d e Q k rx ry f Qh q => by
  obtain ⟨ds, he, fd, fs, f⟩ := f
  have key : ∀ xs, RepAll W.mu H xs ds → (if neg then !inV x xs else inV x xs) = (if neg then !inD d ds else inD d ds) := fun xs r => by rw [in_rep rx fd r fs]
  rcases he with rfl | rfl
  · cases ry with
    | @tup a xs _ h1 h2 h3 => exact ⟨a, xs, rfl, .inr (sqT_of h2), by rw [flat_rep rx]; exact fd, by rw [all_rep h3]; exact fs, by rw [key xs h3]; exact q _ _ H f (.refl H) k (.bl _)⟩
  · cases ry with
    | @lst a xs _ h1 h2 h3 => exact ⟨a, xs, rfl, .inl (sqL_of h2), by rw [flat_rep rx]; exact fd, by rw [all_rep h3]; exact fs, by rw [key xs h3]; exact q _ _ H f (.refl H) k (.bl _)⟩
/-- subscripts -/
def fIx : F2 := fun d e Q => ∃ i, e = .int i ∧ ((∃ ds z, (d = .tuple ds ∨ d = .list ds) ∧ atI ds i = some z ∧ Q z) ∨ ∃ s c, d = .str s ∧ s.length ≤ sizeLine ∧ atI s.cps.toList i = some c ∧ Q (.str ⟨#[c]⟩))
theorem atI_rep {mu : Addr → Prop} {H : Hp} {vs : List V} {ds : List D} {i : Int} {z : D} (r : RepAll mu H vs ds) (h : atI ds i = some z) : ∃ v, atI vs i = some v ∧ Rep mu H v z := by
  unfold atI at h ⊢
  rw [r.length]
  cases e : ixN ds.length i with
  | none => rw [e] at h; cases h
  | some j =>
    rw [e] at h
    exact r.get h
theorem sr_ix {K : PySem.W.Frag} : SR (rIx K) fIx := fun W H x y d e Q k rx ry f Qh q => by
  obtain ⟨i, rfl, f⟩ := f
  cases ry
  rcases f with ⟨ds, z, hd, ha, f⟩ | ⟨s, c, rfl, hl, ha, f⟩
  · rcases hd with rfl | rfl
    · cases rx with
      | @tup a xs _ h1 h2 h3 =>
        obtain ⟨v, e1, e2⟩ := atI_rep h3 ha
        exact .inr (.inl ⟨a, xs, i, v, rfl, rfl, sqT_of h2, e1, q _ _ H f (.refl H) k e2⟩)
    · cases rx with
      | @lst a xs _ h1 h2 h3 =>
        obtain ⟨v, e1, e2⟩ := atI_rep h3 ha
        exact .inl ⟨a, xs, i, v, rfl, rfl, sqL_of h2, e1, q _ _ H f (.refl H) k e2⟩
  · cases rx
    exact .inr (.inr ⟨s, i, c, rfl, rfl, hl, ha, q _ _ H f (.refl H) k (.str _)⟩)
def fIsN (neg : Bool) : F2 := fun d e Q => e = .none ∧ Q (.bool (if neg then !(match d with | .none => true | _ => false) else (match d with | .none => true | _ => false)))
theorem sr_isN : SR (fun x y H Q => y = .non ∧ Q (.bl (decide (x = .non))) H) (fIsN false) := fun W H x y d e Q k rx ry f Qh q => by
  obtain ⟨rfl, f⟩ := f
  cases ry
  refine ⟨rfl, ?_⟩
  cases rx <;> exact q _ _ H f (.refl H) k (.bl _)
theorem sr_notN : SR (fun x y H Q => y = .non ∧ Q (.bl (!decide (x = .non))) H) (fIsN true) := fun W H x y d e Q k rx ry f Qh q => by
  obtain ⟨rfl, f⟩ := f
  cases ry
  refine ⟨rfl, ?_⟩
  cases rx <;> exact q _ _ H f (.refl H) k (.bl _)

section
variable {X : Cx} {a b : Expr} {ta tb : TE} {ma mb : WE} {pos : Pos}
theorem m_op {op : Operator} {r : R2} {f : F2} (ho : OpR X (binaryOp op) r) (h : SR r f) (ha : ME X a ta ma) (hb : ME X b tb mb) : ME X (.BinOp a op b pos) (tOp r ta tb) (wOp f ma mb) := ⟨pe_op ho ha.pe hb.pe, se_op h ha.se hb.se⟩
theorem m_cmp {op : CmpOp} {r : R2} {f : F2} (ho : OpR X (compareOp op) r) (h : SR r f) (ha : ME X a ta ma) (hb : ME X b tb mb) (hm : behindInMarks op b = false) : ME X (.Compare a [op] [b] pos) (tOp r ta tb) (wOp f ma mb) := ⟨pe_cmpR ho ha.pe hb.pe hm, se_op h ha.se hb.se⟩
def wB (m : WE) : WT := fun ρ Q => m ρ fun d => ∃ k, d = .bool k ∧ Q k
theorem st_test {t : TE} {m : WE} (h : SE t m) : ST (tTest t) (wB m) := fun W ρ σ H Q k re g Qh q => h W ρ σ H _ k re g _ fun d v H' ⟨b, e, qb⟩ l k' r => by
  subst e
  cases r
  exact ⟨b, rfl, q b H' qb l k'⟩
theorem st_B {t : TE} {m : WE} (h : SE t m) : ST (tB t) (wB m) := fun W ρ σ H Q k re g Qh q => h W ρ σ H _ k re g _ fun d v H' ⟨b, e, qb⟩ l k' r => by
  subst e
  cases r
  exact ⟨b, rfl, q b H' qb l k'⟩
theorem t_cmp {op : CmpOp} {r : R2} {f : F2} (ho : OpR X (compareOp op) r) (h : SR r f) (ha : ME X a ta ma) (hb : ME X b tb mb) (hm : behindInMarks op b = false) : MT X (.Compare a [op] [b] pos) (tTest (tOp r ta tb)) (wB (wOp f ma mb)) := ⟨pt_cmpR ho ha.pe hb.pe hm, st_test (se_op h ha.se hb.se)⟩
theorem t_val {e : Expr} {t : TE} {m : WE} (h : ME X e t m) (he : ∀ whole, isTrue e X.env whole = (do let v ← whole; standAt e.pos; holding [v] (truthy v)) := by intro _; rfl) : MT X e (tB t) (wB m) := ⟨pt_val h.pe he, st_B h.se⟩
theorem m_ix (ha : ME X a ta ma) (hb : ME X b tb mb) (hs : PlainIx b) : ME X (.Subscript a b pos) (tOp (rIx X.K) ta tb) (wOp fIx ma mb) := ⟨pe_ix ix_seq ha.pe hb.pe hs, se_op sr_ix ha.se hb.se⟩

/-! ### and, or, not -/
def wAnd (t u : WT) : WT := fun ρ Q => t ρ fun b => if b = true then u ρ Q else Q false
def wOr (t u : WT) : WT := fun ρ Q => t ρ fun b => if b = true then Q true else u ρ Q
def wNot (t : WT) : WT := fun ρ Q => t ρ fun b => Q (!b)
theorem st_and {t u : TT} {m n : WT} (h1 : ST t m) (h2 : ST u n) : ST (tAnd t u) (wAnd m n) := fun W ρ σ H Q k re g Qh q => h1 W ρ σ H _ k re g _ fun b H1 gb l1 k1 => by
  cases b with
  | true => exact h2 W ρ σ H1 Q k1 (re.le k l1) gb Qh fun b H2 qb l2 k2 => q b H2 qb (l1.trans l2) k2
  | false => exact q false H1 gb l1 k1
theorem st_or {t u : TT} {m n : WT} (h1 : ST t m) (h2 : ST u n) : ST (tOr t u) (wOr m n) := fun W ρ σ H Q k re g Qh q => h1 W ρ σ H _ k re g _ fun b H1 gb l1 k1 => by
  cases b with
  | true => exact q true H1 gb l1 k1
  | false => exact h2 W ρ σ H1 Q k1 (re.le k l1) gb Qh fun b H2 qb l2 k2 => q b H2 qb (l1.trans l2) k2
theorem st_not {t : TT} {m : WT} (h1 : ST t m) : ST (tNot t) (wNot m) := fun W ρ σ H Q k re g Qh q => h1 W ρ σ H _ k re g _ fun b H1 gb l1 k1 => q (!b) H1 gb l1 k1
theorem w_and1 {t : TT} {m : WT} (h : MT X a t m) : MW X (.BoolOp .And [a] pos) t m := ⟨pw_and1 h.pt, h.st⟩
theorem w_or1 {t : TT} {m : WT} (h : MT X a t m) : MW X (.BoolOp .Or [a] pos) t m := ⟨pw_or1 h.pt, h.st⟩
theorem w_and {t u : TT} {m n : WT} {r : List Expr} (h : MT X a t m) (h2 : MW X (.BoolOp .And (b :: r) pos) u n) : MW X (.BoolOp .And (a :: b :: r) pos) (tAnd t u) (wAnd m n) := ⟨pw_and h.pt h2.pw, st_and h.st h2.st⟩
theorem w_or {t u : TT} {m n : WT} {r : List Expr} (h : MT X a t m) (h2 : MW X (.BoolOp .Or (b :: r) pos) u n) : MW X (.BoolOp .Or (a :: b :: r) pos) (tOr t u) (wOr m n) := ⟨pw_or h.pt h2.pw, st_or h.st h2.st⟩
theorem MW.t {t : TT} {m : WT} {e : Expr} (h : MW X e t m) : MT X e t m := ⟨h.pw.pt, h.st⟩
theorem t_not {t : TT} {m : WT} (h : MT X a t m) : MT X (.UnaryOp .Not a pos) (tNot t) (wNot m) := ⟨pt_not h.pt, st_not h.st⟩
def wAndV (a b : WE) : WE := fun ρ Q => a ρ fun d => ∃ k, d = .bool k ∧ if k = true then b ρ Q else Q (.bool false)
def wOrV (a b : WE) : WE := fun ρ Q => a ρ fun d => ∃ k, d = .bool k ∧ if k = true then Q (.bool true) else b ρ Q
def wNotV (a : WE) : WE := fun ρ Q => a ρ fun d => ∃ k, d = .bool k ∧ Q (.bool (!k))
theorem se_andV (h1 : SE ta ma) (h2 : SE tb mb) : SE (tAndV ta tb) (wAndV ma mb) := fun W ρ σ H Q k re g Qh q => h1 W ρ σ H _ k re g _ fun d v H1 ⟨b, e, gb⟩ l1 k1 r => by
  subst e
  cases r
  refine ⟨b, rfl, ?_⟩
  cases b with
  | true => exact h2 W ρ σ H1 Q k1 (re.le k l1) gb Qh fun b v H2 qb l2 k2 => q b v H2 qb (l1.trans l2) k2
  | false => exact q _ _ H1 gb l1 k1 (.bl _)
theorem se_orV (h1 : SE ta ma) (h2 : SE tb mb) : SE (tOrV ta tb) (wOrV ma mb) := fun W ρ σ H Q k re g Qh q => h1 W ρ σ H _ k re g _ fun d v H1 ⟨b, e, gb⟩ l1 k1 r => by
  subst e
  cases r
  refine ⟨b, rfl, ?_⟩
  cases b with
  | true => exact q _ _ H1 gb l1 k1 (.bl _)
  | false => exact h2 W ρ σ H1 Q k1 (re.le k l1) gb Qh fun b v H2 qb l2 k2 => q b v H2 qb (l1.trans l2) k2
theorem se_notV (h1 : SE ta ma) : SE (tNotV ta) (wNotV ma) := fun W ρ σ H Q k re g Qh q => h1 W ρ σ H _ k re g _ fun d v H1 ⟨b, e, gb⟩ l1 k1 r => by
  subst e
  cases r
  exact ⟨b, rfl, q _ _ H1 gb l1 k1 (.bl _)⟩
theorem m_one {op} {t : TE} {m : WE} (h : ME X a t m) : ME X (.BoolOp op [a] pos) t m := ⟨pe_one h.pe, h.se⟩
theorem m_and {r : List Expr} (ha : ME X a ta ma) (hb : ME X (.BoolOp .And (b :: r) pos) tb mb) : ME X (.BoolOp .And (a :: b :: r) pos) (tAndV ta tb) (wAndV ma mb) := ⟨pe_and ha.pe hb.pe, se_andV ha.se hb.se⟩
theorem m_or {r : List Expr} (ha : ME X a ta ma) (hb : ME X (.BoolOp .Or (b :: r) pos) tb mb) : ME X (.BoolOp .Or (a :: b :: r) pos) (tOrV ta tb) (wOrV ma mb) := ⟨pe_or ha.pe hb.pe, se_orV ha.se hb.se⟩
theorem m_not (ha : ME X a ta ma) : ME X (.UnaryOp .Not a pos) (tNotV ta) (wNotV ma) := ⟨pe_not ha.pe, se_notV ha.se⟩
def wIf (t : WT) (a b : WE) : WE := fun ρ Q => t ρ fun k => if k = true then a ρ Q else b ρ Q
theorem m_if {c : Expr} {t : TT} {m : WT} (hc : MT X c t m) (ha : ME X a ta ma) (hb : ME X b tb mb) : ME X (.IfExp c a b pos) (tIf t ta tb) (wIf m ma mb) := ⟨pe_ifExp hc.pt ha.pe hb.pe, fun W ρ σ H Q k re g Qh q => hc.st W ρ σ H _ k re g _ fun c H1 gb l1 k1 => by
  cases c with
  | true => exact ha.se W ρ σ H1 Q k1 (re.le k l1) gb Qh fun b v H2 qb l2 k2 => q b v H2 qb (l1.trans l2) k2
  | false => exact hb.se W ρ σ H1 Q k1 (re.le k l1) gb Qh fun b v H2 qb l2 k2 => q b v H2 qb (l1.trans l2) k2⟩

/-! ### displays -/
def wTup (m : WA) : WE := fun ρ Q => m ρ fun ds => ds.length ≤ sizeLine ∧ Q (.tuple ds)
def wLst (m : WA) : WE := fun ρ Q => m ρ fun ds => ds.length ≤ sizeLine ∧ Q (.list ds)
theorem m_tup {es : List Expr} {t : TA} {m : WA} {x1} (h : MA X es t m) : ME X (.Tuple es x1 pos) (tTup t) (wTup m) := ⟨pe_tup h.pa, fun W ρ σ H Q k re g Qh q => h.sa W ρ σ H _ k re g _ fun ds vs H1 g1 l1 k1 r1 =>
  ⟨by rw [r1.length]; exact g1.1, fun p hp => q _ _ _ g1.2 (l1.trans (Ex.le (Ex.new hp))) (ok_new k1 hp) (rep_tup k1 hp r1)⟩⟩
theorem m_lst {es : List Expr} {t : TA} {m : WA} (h : MA X es t m) : ME X (.List es pos) (tLst t) (wLst m) := ⟨pe_lst h.pa, fun W ρ σ H Q k re g Qh q => h.sa W ρ σ H _ k re g _ fun ds vs H1 g1 l1 k1 r1 =>
  ⟨by rw [r1.length]; exact g1.1, fun p hp => q _ _ _ g1.2 (l1.trans (Ex.le (Ex.new hp))) (ok_new k1 hp) (rep_lst k1 hp r1)⟩⟩

/-! ### calls of what is built in -/
abbrev FC := List D → (D → Prop) → Prop
abbrev RCl := List V → Hp → VK → Prop
def SRc (r : RCl) (f : FC) : Prop := ∀ (W : Wd) (H : Hp) (vs : List V) (ds : List D) (Q : D → Prop), W.Ok H → RepAll W.mu H vs ds → f ds Q → ∀ Qh : VK, (∀ z v H', Q z → W.Le H H' → W.Ok H' → Rep W.mu H' v z → Qh v H') → r vs H Qh
def wCB (f : FC) (m : WA) : WE := fun ρ Q => m ρ fun ds => f ds Q
theorem se_cb {r : RCl} {f : FC} {t : TA} {m : WA} (h : SRc r f) (ha : SA t m) : SE (tCB r t) (wCB f m) := fun W ρ σ H Q k re g Qh q => ha W ρ σ H _ k re g _ fun ds vs H1 g1 l1 k1 r1 => h W H1 vs ds Q k1 r1 g1 Qh fun z v H2 q2 l2 k2 r2 => q z v H2 q2 (l1.trans l2) k2 r2
theorem SRc.or {r r' : RCl} {f f' : FC} (h : SRc r f) (h' : SRc r' f') : SRc (fun x H Q => r x H Q ∨ r' x H Q) (fun d Q => f d Q ∨ f' d Q) := fun W H x d Q k rx g Qh q => by
  rcases g with g | g
  · exact .inl (h W H x d Q k rx g Qh q)
  · exact .inr (h' W H x d Q k rx g Qh q)
theorem m_callB {x : Str} {id : String} {e : Expr} {es : List Expr} {r : RCl} {f : FC} {t : TA} {m : WA} {p : Pos} (hc : CallR X (.builtin id) r) (hf : SRc r f) (hg : Gl X x) (hm : X.mg x = none) (hv : bootBuiltins x = some (.builtin id)) (ha : MA X (e :: es) t m) (hn : x ≠ "__name__" := by decide) (hdb : (x == ("__debug__" : Str)) = false := by decide)
    (he : starEach (e :: es) X.env = (false, eval e X.env) :: starEach es X.env := by rfl) (hpl : (backTo pos (starEach es X.env)).any (·.1) = false := by rfl) : ME X (.Call (.Name x p) (e :: es) [] pos) (tCB r t) (wCB f m) := ⟨pe_callB hc hg hm hv ha.pa hn hdb he hpl, se_cb hf ha.sa⟩
theorem m_callT {x : Str} {T : String} {e : Expr} {es : List Expr} {r : RCl} {f : FC} {t : TA} {m : WA} {p : Pos} (hc : CallR X (.type T) r) (hf : SRc r f) (hg : Gl X x) (hm : X.mg x = none) (hv : bootBuiltins x = some (.type T)) (ha : MA X (e :: es) t m) (hn : x ≠ "__name__" := by decide) (hdb : (x == ("__debug__" : Str)) = false := by decide)
    (he : starEach (e :: es) X.env = (false, eval e X.env) :: starEach es X.env := by rfl) (hpl : (backTo pos (starEach es X.env)).any (·.1) = false := by rfl) : ME X (.Call (.Name x p) (e :: es) [] pos) (tCB r t) (wCB f m) := ⟨pe_callTy hc hg hm hv ha.pa hn hdb he hpl, se_cb hf ha.sa⟩
def rLen (K : PySem.W.Frag) : RCl := fun xs H Q => (∃ p ys, xs = [.ref p] ∧ (SqL K H p ys ∨ SqT K H p ys) ∧ Q (.int ys.length) H) ∨ ∃ z, xs = [.str z] ∧ z.length ≤ sizeLine ∧ Q (.int z.length) H
def fLen : FC := fun ds Q => (∃ xs, (ds = [.list xs] ∨ ds = [.tuple xs]) ∧ Q (.int xs.length)) ∨ ∃ z, ds = [.str z] ∧ z.length ≤ sizeLine ∧ Q (.int z.length)
theorem cr_len : CallR X (.builtin "len") (rLen X.K) := CallR.or call_len_seq call_len_str
theorem sr_len {K : PySem.W.Frag} : SRc (rLen K) fLen := fun W H vs ds Q k r g Qh q => by
  rcases g with ⟨xs, e | e, g⟩ | ⟨z, e, hz, g⟩
  · subst e
    cases r with
    | cons r t =>
      cases t
      cases r with
      | @lst a ys _ h1 h2 h3 => exact .inl ⟨a, ys, rfl, .inl (sqL_of h2), by rw [h3.length]; exact q _ _ H g (.refl H) k (.int _)⟩
  · subst e
    cases r with
    | cons r t =>
      cases t
      cases r with
      | @tup a ys _ h1 h2 h3 => exact .inl ⟨a, ys, rfl, .inr (sqT_of h2), by rw [h3.length]; exact q _ _ H g (.refl H) k (.int _)⟩
  · subst e
    cases r with
    | cons r t =>
      cases t
      cases r
      exact .inr ⟨z, rfl, hz, q _ _ H g (.refl H) k (.int _)⟩
def rTupOf (K : PySem.W.Frag) : RCl := fun xs H Q => ∃ p ys, xs = [.ref p] ∧ ((SqL K H p ys ∧ ∀ l, H l = none → Q (.ref l) (upd H l (.tup ys))) ∨ (SqT K H p ys ∧ Q (.ref p) H))
def fTupOf : FC := fun ds Q => ∃ xs, (ds = [.list xs] ∨ ds = [.tuple xs]) ∧ Q (.tuple xs)
theorem cr_tupOf : CallR X (.type "tuple") (rTupOf X.K) := call_tuple_of
theorem sr_tupOf {K : PySem.W.Frag} : SRc (rTupOf K) fTupOf := fun W H vs ds Q k r g Qh q => by
  obtain ⟨xs, e | e, g⟩ := g
  · subst e
    cases r with
    | cons r t =>
      cases t
      cases r with
      | @lst a ys _ h1 h2 h3 => exact ⟨a, ys, rfl, .inl ⟨sqL_of h2, fun p hp => q _ _ _ g (Ex.le (Ex.new hp)) (ok_new k hp) (rep_tup k hp h3)⟩⟩
  · subst e
    cases r with
    | cons r t =>
      cases t
      cases r with
      | @tup a ys _ h1 h2 h3 => exact ⟨a, ys, rfl, .inr ⟨sqT_of h2, q _ _ H g (.refl H) k (.tup h1 h2 h3)⟩⟩
def rLstOf (K : PySem.W.Frag) : RCl := fun xs H Q => ∃ p ys, xs = [.ref p] ∧ (SqL K H p ys ∨ SqT K H p ys) ∧ ∀ l, H l = none → Q (.ref l) (upd H l (.lst ys))
def fLstOf : FC := fun ds Q => ∃ xs, (ds = [.list xs] ∨ ds = [.tuple xs]) ∧ Q (.list xs)
theorem cr_lstOf : CallR X (.type "list") (rLstOf X.K) := call_list_of
theorem sr_lstOf {K : PySem.W.Frag} : SRc (rLstOf K) fLstOf := fun W H vs ds Q k r g Qh q => by
  obtain ⟨xs, e | e, g⟩ := g
  · subst e
    cases r with
    | cons r t =>
      cases t
      cases r with
      | @lst a ys _ h1 h2 h3 => exact ⟨a, ys, rfl, .inl (sqL_of h2), fun p hp => q _ _ _ g (Ex.le (Ex.new hp)) (ok_new k hp) (rep_lst k hp h3)⟩
  · subst e
    cases r with
    | cons r t =>
      cases t
      cases r with
      | @tup a ys _ h1 h2 h3 => exact ⟨a, ys, rfl, .inr (sqT_of h2), fun p hp => q _ _ _ g (Ex.le (Ex.new hp)) (ok_new k hp) (rep_lst k hp h3)⟩
theorem bools_rep {mu : Addr → Prop} {H : Hp} : ∀ {bs : List Bool} {vs : List V}, RepAll mu H vs (bs.map PyData.bool) → vs = bs.map V.bl
  | [], _, h => by cases h; rfl
  | b :: bs, _, h => by
    cases h with
    | cons r t => cases r; rw [bools_rep t]; rfl
theorem ints_rep {mu : Addr → Prop} {H : Hp} : ∀ {bs : List Int} {vs : List V}, RepAll mu H vs (bs.map PyData.int) → vs = bs.map V.int
  | [], _, h => by cases h; rfl
  | b :: bs, _, h => by
    cases h with
    | cons r t => cases r; rw [ints_rep t]; rfl
def fAll : FC := fun ds Q => ∃ bs : List Bool, ds = [.list (bs.map PyData.bool)] ∧ Q (.bool (bs.all id))
def fAny : FC := fun ds Q => ∃ bs : List Bool, ds = [.list (bs.map PyData.bool)] ∧ Q (.bool (bs.any id))
theorem sr_all {K : PySem.W.Frag} : SRc (rAll K) fAll := fun W H vs ds Q k r g Qh q => by
  obtain ⟨bs, rfl, g⟩ := g
  cases r with
  | cons r t =>
    cases t
    cases r with
    | @lst a ys _ h1 h2 h3 =>
      have e := bools_rep h3
      subst e
      exact ⟨a, bs, rfl, sqL_of h2, q _ _ H g (.refl H) k (.bl _)⟩
theorem sr_any {K : PySem.W.Frag} : SRc (rAny K) fAny := fun W H vs ds Q k r g Qh q => by
  obtain ⟨bs, rfl, g⟩ := g
  cases r with
  | cons r t =>
    cases t
    cases r with
    | @lst a ys _ h1 h2 h3 =>
      have e := bools_rep h3
      subst e
      exact ⟨a, bs, rfl, sqL_of h2, q _ _ H g (.refl H) k (.bl _)⟩
end
end Mo

namespace Mo
open PySem PySem.Spec PyProof.Rows L2

/-! ### what is walked -/
/-- what is not hidden stays -/
def Wd.Lt (W : Wd) (H H' : Hp) : Prop := ∀ a o, ¬ W.mu a → H a = some o → H' a = some o
theorem Wd.Le.lt {W : Wd} {H H' : Hp} (k : W.Ok H) (l : W.Le H H') : W.Lt H H' := fun a o n h => (l a o h).1 (k.nbx n)
structure ItOk (W : Wd) (J : It) (H : Hp) (ds : List D) : Prop where
  go : ∀ i H', i < ds.length → W.Lt H H' → J.go i H'
  stop : ∀ H', W.Lt H H' → J.stop ds.length H'
  yld : ∀ i H' v H'', W.Lt H H' → i < ds.length → J.yld i H' v H'' → ∃ d, ds[i]? = some d ∧ Ex H' H'' ∧ ∀ mu' : Addr → Prop, (∀ a, mu' a → W.mu a ∨ H a = none) → (∀ a, mu' a → ∃ o, H' a = some o) → Rep mu' H'' v d
def SI (t : TI) (m : WI) : Prop := ∀ (W : Wd) (ρ : Rho) (σ : L2.St) (H : Hp) (Q : List D → Prop), W.Ok H → RepE W H σ ρ → m ρ Q → ∀ Qh : It → Hp → Prop, (∀ ds J H', Q ds → W.Le H H' → W.Ok H' → ItOk W J H' ds → Qh J H') → t σ H Qh
structure MI (X : Cx) (tg iter : Expr) (t : TI) (m : WI) : Prop where
  pi : PI X tg iter t
  si : SI t m
theorem stays_hide' {W : Wd} {mu' : Addr → Prop} {H H' : Hp} (e : W.Lt H H') (h : ∀ a, mu' a → W.mu a ∨ H a = none) : Stays W.mu mu' H H' := fun a u n q => ⟨fun z => (h a z).elim n (fun z => by rw [z] at q; cases q), e a u n q⟩
theorem stays_hide {W : Wd} {mu' : Addr → Prop} {H H' : Hp} (k : W.Ok H) (e : W.Le H H') (h : ∀ a, mu' a → W.mu a ∨ H a = none) : Stays W.mu mu' H H' := stays_hide' (e.lt k) h
def rngD (lo : Int) (n : Nat) : List D := (List.range n).map fun i => PyData.int (lo + (i : Nat))
theorem rngD_len (lo : Int) (n : Nat) : (rngD lo n).length = n := by simp [rngD]
theorem it_rng {W : Wd} {H : Hp} {lo : Int} {n : Nat} : ItOk W (Itr lo n) H (rngD lo n) where
  go := fun i H' hi _ => by rw [rngD_len] at hi; exact hi
  stop := fun H' _ => by rw [rngD_len]; exact Nat.le_refl _
  yld := fun i H' v H'' _ hi y => by
    obtain ⟨rfl, rfl⟩ := y
    rw [rngD_len] at hi
    exact ⟨.int (lo + (i : Nat)), by simp [rngD, hi], Ex.refl _, fun _ _ _ => .int _⟩
theorem it_lst {W : Wd} {K : PySem.W.Frag} {H : Hp} {a : Addr} {xs : List V} {ds : List D} (k : W.Ok H) (h1 : ¬ W.mu a) (h2 : H a = some (.lst xs)) (h3 : RepAll W.mu H xs ds) : ItOk W (Itl K a) H ds where
  go := fun i H' hi l => by
    rw [← h3.length] at hi
    exact ⟨xs, xs[i], sqL_of (l a _ h1 h2), by simp [hi]⟩
  stop := fun H' l => ⟨xs, sqL_of (l a _ h1 h2), by rw [h3.length]; exact Nat.le_refl _⟩
  yld := fun i H' v H'' l hi y => by
    obtain ⟨rfl, y⟩ := y
    obtain ⟨d, e1, e2⟩ := h3.getV (y xs (sqL_of (l a _ h1 h2)))
    exact ⟨d, e1, Ex.refl _, fun mu' m _ => e2.stays (stays_hide' l m)⟩
theorem it_tup {W : Wd} {K : PySem.W.Frag} {H : Hp} {a : Addr} {xs : List V} {ds : List D} (k : W.Ok H) (h1 : ¬ W.mu a) (h2 : H a = some (.tup xs)) (h3 : RepAll W.mu H xs ds) : ItOk W (Itt K a) H ds where
  go := fun i H' hi l => by
    rw [← h3.length] at hi
    exact ⟨xs, xs[i], sqT_of (l a _ h1 h2), by simp [hi]⟩
  stop := fun H' l => ⟨xs, sqT_of (l a _ h1 h2), by rw [h3.length]; exact Nat.le_refl _⟩
  yld := fun i H' v H'' l hi y => by
    obtain ⟨rfl, y⟩ := y
    obtain ⟨d, e1, e2⟩ := h3.getV (y xs (sqT_of (l a _ h1 h2)))
    exact ⟨d, e1, Ex.refl _, fun mu' m _ => e2.stays (stays_hide' l m)⟩
def signsD (z : Str) : List D := z.cps.toList.map fun c => PyData.str ⟨#[c]⟩
theorem it_str {W : Wd} {H : Hp} {z : Str} : ItOk W (Its z) H (signsD z) where
  go := fun i H' hi _ => by
    have : i < z.cps.size := by simpa [signsD] using hi
    exact this
  stop := fun H' _ => by
    show z.cps.size ≤ (signsD z).length
    simp [signsD]
  yld := fun i H' v H'' _ hi y => by
    obtain ⟨rfl, c, hc, rfl⟩ := y
    refine ⟨.str ⟨#[c]⟩, ?_, Ex.refl _, fun _ _ _ => .str _⟩
    simp only [signsD, List.getElem?_map]
    rw [show z.cps.toList[i]? = some c by simpa using hc]
    rfl
def iSeq (K : PySem.W.Frag) (tl : TE) : TI := fun σ H R => tl σ H fun x H1 => (∃ a xs, x = .ref a ∧ H1 a = some (.lst xs) ∧ R (Itl K a) H1) ∨ (∃ a xs, x = .ref a ∧ H1 a = some (.tup xs) ∧ R (Itt K a) H1) ∨ ∃ z, x = .str z ∧ R (Its z) H1
section
variable {X : Cx} {tg : Expr}
theorem pi_seq {l : Expr} {tl : TE} (hl : PE X l tl) : PI X tg l (iSeq X.K tl) := ⟨fun pins s σ H R I h =>
  thn (hl.run pins s σ H _ I h) (by
    rintro v s1 ⟨x, H1, I1, r1, ⟨a, xs, rfl, hq, q⟩ | ⟨a, xs, rfl, hq, q⟩ | ⟨z, rfl, q⟩⟩
    · cases r1
      obtain ⟨its, rv, p, hz⟩ := I1.list (sqL_of hq)
      exact wpAny_pyIter_list p.isList (pi_one (tk := s1.toks) I1 _ (turn_list a _) ⟨_, Heap.get?_push_size _ rfl, rfl, rfl⟩ q)
    · cases r1
      obtain ⟨its, rv, p, hz⟩ := I1.tuple (sqT_of hq)
      exact wpAny_pyIter_tuple p (pi_one (tk := s1.toks) I1 _ (turn_tuple a _) ⟨_, Heap.get?_push_size _ rfl, rfl, rfl⟩ q)
    · obtain ⟨t, rfl⟩ := r1
      cases ha : z.cps.all (· < 128)
      · exact wpAny_pyIter_wide ha (pi_one (tk := s1.toks) I1 _ (turn_str _ z t "str_iterator" (.inr rfl)) ⟨_, Heap.get?_push_size _ rfl, rfl, rfl⟩ q)
      · exact wpAny_pyIter_ascii ha (pi_one (tk := s1.toks) I1 _ (turn_str _ z t "str_ascii_iterator" (.inl rfl)) ⟨_, Heap.get?_push_size _ rfl, rfl, rfl⟩ q))⟩
def itemsOf : D → Option (List D)
  | .list ds => some ds
  | .tuple ds => some ds
  | .str z => some (signsD z)
  | _ => none
def wSeqI (m : WE) : WI := fun ρ Q => m ρ fun d => ∃ ds, itemsOf d = some ds ∧ Q ds
theorem i_seq {l : Expr} {tl : TE} {m : WE} (hl : ME X l tl m) : MI X tg l (iSeq X.K tl) (wSeqI m) := ⟨pi_seq hl.pe, fun W ρ σ H Q k re g Qh q => hl.se W ρ σ H _ k re g _ fun d v H1 ⟨ds, e, g1⟩ l1 k1 r1 => by
  cases r1 with
  | lst h1 h2 h3 => cases e; exact .inl ⟨_, _, rfl, h2, q ds _ H1 g1 l1 k1 (it_lst k1 h1 h2 h3)⟩
  | tup h1 h2 h3 => cases e; exact .inr (.inl ⟨_, _, rfl, h2, q ds _ H1 g1 l1 k1 (it_tup k1 h1 h2 h3)⟩)
  | str z => cases e; exact .inr (.inr ⟨_, rfl, q _ _ H1 g1 l1 k1 it_str⟩)
  | _ => cases e⟩
def wRng1 (m : WA) : WI := fun ρ Q => m ρ fun ds => ∃ j : Int, ds = [.int j] ∧ -(2 ^ 62) ≤ j ∧ j < 2 ^ 62 ∧ Q (rngD 0 j.toNat)
def wRng2 (m : WA) : WI := fun ρ Q => m ρ fun ds => ∃ i j : Int, ds = [.int i, .int j] ∧ (-(2 ^ 62) ≤ i ∧ i < 2 ^ 62 ∧ -(2 ^ 62) ≤ j ∧ j < 2 ^ 62) ∧ Q (rngD i (j - i).toNat)
theorem i_rng1 {a : Expr} {ta : TA} {m : WA} {p pos : Pos} (hg : Gl X "range") (hm : X.mg "range" = none) (ha : MA X [a] ta m) (hs : starEach [a] X.env = [(false, eval a X.env)] := by rfl) : MI X tg (.Call (.Name "range" p) [a] [] pos) (iRng1 ta) (wRng1 m) :=
  ⟨pi_range1 hg hm ha.pa hs, fun W ρ σ H Q k re g Qh q => ha.sa W ρ σ H _ k re g _ fun ds vs H1 ⟨j, e, b1, b2, g1⟩ l1 k1 r1 => by
    subst e
    cases r1 with
    | cons r t => cases t; cases r; exact ⟨j, rfl, b1, b2, q _ _ H1 g1 l1 k1 it_rng⟩⟩
theorem i_rng2 {a b : Expr} {ta : TA} {m : WA} {p pos : Pos} (hg : Gl X "range") (hm : X.mg "range" = none) (ha : MA X [a, b] ta m) (hs : starEach [a, b] X.env = [(false, eval a X.env), (false, eval b X.env)] := by rfl) (hs2 : starEach [b] X.env = [(false, eval b X.env)] := by rfl) : MI X tg (.Call (.Name "range" p) [a, b] [] pos) (iRng2 ta) (wRng2 m) :=
  ⟨pi_range2 hg hm ha.pa hs hs2, fun W ρ σ H Q k re g Qh q => ha.sa W ρ σ H _ k re g _ fun ds vs H1 ⟨i, j, e, b1, g1⟩ l1 k1 r1 => by
    subst e
    cases r1 with
    | cons r t =>
      cases t with
      | cons r2 t => cases t; cases r; cases r2; exact ⟨i, j, rfl, b1, q _ _ H1 g1 l1 k1 it_rng⟩⟩
end

/-! ### targets -/
theorem wipe_get (σ : L2.St) (i : Nat) : ∀ vs : List Nat, (wipe σ vs)[i]? = if i ∈ vs then (if i < σ.length then some none else none) else σ[i]?
  | [] => by simp [wipe]
  | v :: vs => by
    unfold wipe
    by_cases e : v = i
    · subst e
      rw [if_pos (by simp)]
      rw [List.getElem?_set]
      simp [wipe_length]
    · rw [List.getElem?_set_ne e, wipe_get σ i vs]
      have : (i ∈ v :: vs) ↔ i ∈ vs := by simp [Ne.symm e]
      simp only [this]
theorem wipe_ext {σ τ : L2.St} {vs : List Nat} (hl : σ.length = τ.length) (h : ∀ i, i ∉ vs → σ[i]? = τ[i]?) : wipe σ vs = wipe τ vs := by
  apply List.ext_getElem?
  intro i
  rw [wipe_get, wipe_get, hl]
  by_cases e : i ∈ vs
  · rw [if_pos e, if_pos e]
  · rw [if_neg e, if_neg e, h i e]
/-- a target: what it sets, the slots it touches -/
def SG (g : TG) (m : WG) (sl : List Nat) : Prop := ∀ (W : Wd) (ρ : Rho) (σ : L2.St) (H : Hp) (d : D) (v : V) (Q : Rho → Prop), W.Ok H → RepE W H σ ρ → Rep W.mu H v d → m d ρ Q → ∀ Qh : L2.St → Hp → Prop,
  (∀ ρ' σ', Q ρ' → RepE W H σ' ρ' → σ'.length = σ.length → (∀ i, i ∉ sl → σ'[i]? = σ[i]? ∧ ρ'[i]? = ρ[i]?) → (∀ (i : Nat) xs, ρ'[i]? = some (.own xs) → ρ[i]? = some (.own xs) ∧ σ'[i]? = σ[i]?) → Qh σ' H) → g v σ H Qh
structure MG (X : Cx) (tg : Expr) (g : TG) (m : WG) (sl : List Nat) : Prop where
  pg : PG X tg g
  sg : SG g m sl
def gN (i : Nat) : WG := fun d ρ Q => Q (ρ.set i (.d d))
theorem sg_name (i : Nat) : SG (gName i) (gN i) [i] := fun W ρ σ H d v Q k re r g Qh q => by
  refine q _ _ g (re.set r) (List.length_set ..) (fun j hj => ?_) (fun j xs e => ?_)
  · have : i ≠ j := fun e => hj (by simp [e])
    exact ⟨List.getElem?_set_ne this, List.getElem?_set_ne this⟩
  · by_cases h : i = j
    · subst h
      rw [List.getElem?_set] at e
      simp at e
    · rw [List.getElem?_set_ne h] at e
      exact ⟨e, List.getElem?_set_ne h⟩
/-- a, b = .. -/
abbrev WGs := List D → Rho → (Rho → Prop) → Prop
def gsNil : WGs := fun ds ρ Q => ds = [] ∧ Q ρ
def gsCons (m : WG) (r : WGs) : WGs := fun ds ρ Q => ∃ d rest, ds = d :: rest ∧ m d ρ fun ρ' => r rest ρ' Q
def gT (n : Nat) (m : WGs) : WG := fun d ρ Q => ∃ ds, d = .tuple ds ∧ ds.length = n ∧ m ds ρ Q
def SGs (g : TGs) (m : WGs) (sl : List Nat) : Prop := ∀ (W : Wd) (ρ : Rho) (σ : L2.St) (H : Hp) (ds : List D) (vs : List V) (Q : Rho → Prop), W.Ok H → RepE W H σ ρ → RepAll W.mu H vs ds → m ds ρ Q → ∀ Qh : L2.St → Hp → Prop,
  (∀ ρ' σ', Q ρ' → RepE W H σ' ρ' → σ'.length = σ.length → (∀ i, i ∉ sl → σ'[i]? = σ[i]? ∧ ρ'[i]? = ρ[i]?) → (∀ (i : Nat) xs, ρ'[i]? = some (.own xs) → ρ[i]? = some (.own xs) ∧ σ'[i]? = σ[i]?) → Qh σ' H) → g vs σ H Qh
structure MGs (X : Cx) (tg : List Expr) (g : TGs) (m : WGs) (sl : List Nat) : Prop where
  pg : PGs X tg g
  sg : SGs g m sl
section
variable {X : Cx} {pos : Pos}
theorem g_name (i : Nat) {x : Str} (hN : X.N.Nodup) (hi : X.N[i]? = some x) (hx : Loc X.env.scope x) (hf : X.fn x = true ∨ X.env.scope.names.lookup x = some .local := by first | exact .inl rfl | exact .inr rfl | assumption) : MG X (.Name x pos) (gName i) (gN i) [i] := ⟨pg_name hN hi hx hf, sg_name i⟩
theorem gs_nil : MGs X [] gNil gsNil [] := ⟨pgs_nil, fun W ρ σ H ds vs Q k re r ⟨e, g⟩ Qh q => by
  subst e
  cases r
  exact ⟨rfl, q _ _ g re rfl (fun _ _ => ⟨rfl, rfl⟩) fun _ _ h => ⟨h, rfl⟩⟩⟩
theorem gs_cons {e : Expr} {es : List Expr} {g : TG} {gs : TGs} {m : WG} {ms : WGs} {sl sl' : List Nat} (h : MG X e g m sl) (hr : MGs X es gs ms sl') (hs : ((assignEach (e :: es) X.env).map (·.2)) = assign e X.env :: (assignEach es X.env).map (·.2) := by rfl) : MGs X (e :: es) (gCons g gs) (gsCons m ms) (sl ++ sl') := ⟨pgs_cons h.pg hr.pg hs, fun W ρ σ H ds vs Q k re r ⟨d, rest, e, g⟩ Qh q => by
  subst e
  cases r with
  | cons r t =>
    refine ⟨_, _, rfl, h.sg W ρ σ H d _ _ k re r g _ fun ρ' σ' g1 re1 l1 s1 o1 => hr.sg W ρ' σ' H rest _ Q k re1 t g1 _ fun ρ2 σ2 g2 re2 l2 s2 o2 => q ρ2 σ2 g2 re2 (l2.trans l1) (fun i hi => ?_) (fun i xs h => ?_)⟩
    · have a := s1 i fun z => hi (List.mem_append_left _ z)
      have b := s2 i fun z => hi (List.mem_append_right _ z)
      exact ⟨b.1.trans a.1, b.2.trans a.2⟩
    · obtain ⟨h1, h2⟩ := o2 i xs h
      obtain ⟨h3, h4⟩ := o1 i xs h1
      exact ⟨h3, h2.trans h4⟩⟩
theorem g_tup {es : List Expr} {k : Nat} {gs : TGs} {m : WGs} {sl : List Nat} {n : Nat} (hp : PG X (.Tuple es k pos) (gTup X.K n gs)) (h : SGs gs m sl) : MG X (.Tuple es k pos) (gTup X.K n gs) (gT n m) sl := ⟨hp, fun W ρ σ H d v Q k re r ⟨ds, e, hl, g⟩ Qh q => by
  subst e
  cases r with
  | tup h1 h2 h3 => exact ⟨_, _, rfl, sqT_of h2, by rw [h3.length]; exact hl, h W ρ σ H ds _ Q k re h3 g Qh q⟩⟩

theorem g_tup1 {es : List Expr} {k : Nat} {gs : TGs} {m : WGs} {sl : List Nat} {n : Nat} (hc : X.calm = true) (h : MGs X es gs m sl) (hn : (assignEach es X.env).length = n := by rfl) (hst : (assignEach es X.env).findIdx? (·.1) = none := by rfl) :
    MG X (.Tuple es k pos) (gTup X.K n gs) (gT n m) sl := g_tup (pg_tup hc h.pg hn hst) h.sg

/-! ### comprehensions -/
def Wd.plus (W : Wd) (p : Addr) : Wd := ⟨fun a => W.mu a ∨ a = p, W.bx, W.dl, W.dg⟩
def wGo (mg : WG) (mt : WT) (me : WE) (ρ : Rho) : List D → List D → (List D → Prop) → Prop
  | [], acc, Q => Q acc
  | d :: ds, acc, Q => mg d ρ fun ρ1 => mt ρ1 fun b => if b = true then me ρ1 fun y => wGo mg mt me ρ ds (acc ++ [y]) Q else wGo mg mt me ρ ds acc Q
def wLc (mi : WI) (mg : WG) (mt : WT) (me : WE) (vs : List Nat) : WE := fun ρ Q => mi ρ fun ds => ds.length ≤ sizeLine ∧ wGo mg mt me (wipeS ρ vs) ds [] fun out => Q (.list out)
theorem RepE.plus {W : Wd} {H H' : Hp} {σ : L2.St} {ρ : Rho} {p : Addr} (k : W.Ok H) (e : W.Le H H') (hp : H p = none) (h : RepE W H σ ρ) : RepE (W.plus p) H' σ ρ := by
  have st : Stays W.mu (W.plus p).mu H H' := stays_hide k e fun a z => z.elim .inl fun z => .inr (by rw [z]; exact hp)
  refine ⟨h.len, fun i s q => ?_⟩
  have r := h.at_ i s q
  cases s with
  | un => trivial
  | d x => obtain ⟨v, h1, h2⟩ := r; exact ⟨v, h1, h2.stays st⟩
  | box => exact r
  | own xs => obtain ⟨a, vs, h1, h2, h3, h4, h5⟩ := r; exact ⟨a, vs, h1, .inl h2, h3, (e a _ h4).1 h3, h5.stays st⟩
theorem Wd.Ok.plus {W : Wd} {H' : Hp} {p : Addr} (k : W.Ok H') (hp : ∃ o, H' p = some o) : (W.plus p).Ok H' := ⟨fun a z => z.elim (k.1 a) fun z => by rw [z]; exact hp, fun b z => ⟨.inl (k.2 b z).1, (k.2 b z).2⟩⟩
theorem Wd.Ok.minus {W : Wd} {H : Hp} {p : Addr} (k : (W.plus p).Ok H) (hb : ∀ b, W.bx = some b → W.mu b) : W.Ok H := ⟨fun a z => k.1 a (.inl z), fun b z => ⟨hb b z, (k.2 b z).2⟩⟩
theorem ok_app {W : Wd} {H H1 : Hp} {p : Addr} {o : HO} (k0 : W.Ok H) (hp : H p = none) (k : (W.plus p).Ok H1) : (W.plus p).Ok (upd H1 p o) := by
  refine ⟨fun a z => ?_, fun b z => ⟨(k.2 b z).1, ?_⟩⟩
  · by_cases e : a = p
    · subst e; exact ⟨_, upd_same⟩
    · rw [upd_ne e]; exact k.1 a z
  · obtain ⟨n0, f1, f2⟩ := (k0.2 b z).2
    obtain ⟨n, g1, g2⟩ := (k.2 b z).2
    refine ⟨n, ?_, ?_⟩
    · rw [upd_ne (ne_of_none f1 hp)]; exact g1
    · show upd H1 p o W.dl = _
      rw [upd_ne (ne_of_none f2 hp)]; exact g2
theorem wGo_len {mg : WG} {mt : WT} {me : WE} {ρ : Rho} : True := trivial
theorem se_lc {t : TI} {mi : WI} {g : TG} {mg : WG} {sl : List Nat} {tt : TT} {mt : WT} {te : TE} {me : WE} {vs : List Nat} (hs : ∀ i ∈ sl, i ∈ vs) (hi : SI t mi) (hg : SG g mg sl) (ht : ST tt mt) (he : SE te me) : SE (tLc t g tt te vs) (wLc mi mg mt me vs) := fun W ρ σ H Q k re gg Qh q =>
  hi W ρ σ H _ k re gg _ fun ds J H1 ⟨hlen, g1⟩ l1 k1 it => fun D0 hD => by
    have nD : ¬ W.mu D0 := k1.fresh hD
    have bD : W.bx ≠ some D0 := k1.nbx nD
    have re1 : RepE W H1 (wipe σ vs) (wipeS ρ vs) := (re.le k l1).wipe vs
    refine ⟨fun i m H' => m = ds.length - i ∧ i ≤ ds.length ∧ ∃ acc ws, H' D0 = some (.lst ws) ∧ RepAll (W.plus D0).mu H' ws acc ∧ W.Le H1 H' ∧ (W.plus D0).Ok H' ∧ acc.length ≤ i ∧ wGo mg mt me (wipeS ρ vs) (ds.drop i) acc fun out => Q (.list out), ⟨ds.length, ?_⟩, ?_⟩
    · exact ⟨rfl, Nat.zero_le _, [], [], upd_same, .nil, Ex.le (Ex.new hD), (ok_new k1 hD).plus ⟨_, upd_same⟩, Nat.le_refl _, g1⟩
    · rintro i m H' ⟨rfl, hin, acc, ws, eD, rA, le, ok', hacc, go⟩
      by_cases hlt : i < ds.length
      · refine .inr ⟨it.go i H' hlt (le.lt k1), fun H2 => ∃ acc ws, H2 D0 = some (.lst ws) ∧ RepAll (W.plus D0).mu H2 ws acc ∧ W.Le H1 H2 ∧ (W.plus D0).Ok H2 ∧ acc.length ≤ i + 1 ∧ wGo mg mt me (wipeS ρ vs) (ds.drop (i + 1)) acc fun out => Q (.list out), fun H2 h2 => ⟨ds.length - (i + 1), by omega, rfl, hlt, h2⟩, fun x H2 y => ?_⟩
        obtain ⟨d, hd, ex, rep⟩ := it.yld i H' x H2 (le.lt k1) hlt y
        have hdrop : ds.drop i = d :: ds.drop (i + 1) := by
          rw [List.drop_eq_getElem_cons hlt]
          rw [List.getElem?_eq_getElem hlt] at hd
          rw [Option.some.inj hd]
        rw [hdrop] at go
        have le2 : W.Le H1 H2 := le.trans (Ex.le ex)
        have ok2 : (W.plus D0).Ok H2 := ok'.ex ex
        have re2 : RepE (W.plus D0) H2 (wipe σ vs) (wipeS ρ vs) := re1.plus k1 le2 hD
        refine hg (W.plus D0) _ _ H2 d x _ ok2 re2 (rep _ (fun a z => z.elim .inl fun z => .inr (by rw [z]; exact hD)) fun a z => ok'.1 a z) go _ fun ρ' σ' g3 re3 len3 s3 _ => ⟨?_, ?_⟩
        · have e1 : wipe σ' vs = wipe (wipe σ vs) vs := wipe_ext len3 fun i hi => (s3 i fun z => hi (hs i z)).1
          rw [e1]
          exact wipe_ext (wipe_length _ _) fun i hi => by rw [wipe_get, if_neg hi]
        · refine ht (W.plus D0) ρ' σ' H2 _ ok2 re3 g3 _ fun b H3 g4 l3 k3 => ?_
          have eD3 : H3 D0 = some (.lst ws) := (l3 D0 _ (ex D0 _ eD)).1 bD
          have rA3 : RepAll (W.plus D0).mu H3 ws acc := (rA.le ok' (Ex.le ex)).le ok2 l3
          have le3 : W.Le H1 H3 := le2.trans fun a o z => ⟨(l3 a o z).1, (l3 a o z).2⟩
          cases b with
          | false =>
            simp only [Bool.false_eq_true, if_false] at g4 ⊢
            exact ⟨acc, ws, eD3, rA3, le3, k3, by omega, g4⟩
          | true =>
            simp only [if_true] at g4 ⊢
            refine he (W.plus D0) ρ' σ' H3 _ k3 (re3.le ok2 l3) g4 _ fun y v H4 g5 l4 k4 r4 => ?_
            have eD4 : H4 D0 = some (.lst ws) := (l4 D0 _ eD3).1 bD
            have rA4 : RepAll (W.plus D0).mu H4 ws acc := rA3.le k3 l4
            have st : Stays (W.plus D0).mu (W.plus D0).mu H4 (upd H4 D0 (.lst (ws ++ [v]))) := fun a u n z => ⟨n, by rw [upd_ne (fun e => n (.inr e))]; exact z⟩
            refine ⟨ws, eD4, by rw [rA4.length]; omega, acc ++ [y], ws ++ [v], upd_same, (rA4.append (.cons r4 .nil)).stays st, ?_, ok_app k1 hD k4, by rw [List.length_append, List.length_singleton]; omega, g5⟩
            intro a o z
            have hz := ne_of_none z hD
            obtain ⟨z1, o1, z2⟩ := le3 a o z
            rw [upd_ne hz]
            exact ⟨fun n => (l4 a o (z1 n)).1 n, (l4 a o1 z2).2⟩
      · have e : i = ds.length := by omega
        subst e
        rw [List.drop_length] at go
        refine .inl ⟨it.stop H' (le.lt k1), q _ _ H' go (l1.trans le) (ok'.minus fun b z => (k1.2 b z).1) (.lst nD eD (rA.stays fun a u n z => ⟨fun z => n (.inl z), z⟩))⟩
def wYes : WT := fun _ Q => Q true
theorem st_yes : ST tYes wYes := fun W ρ σ H Q k re g Qh q => q true H g (.refl H) k
structure MTs (X : Cx) (ifs : List Expr) (t : TT) (m : WT) : Prop where
  pt : PTs X ifs t
  st : ST t m
theorem ts_nil : MTs X [] tYes wYes := ⟨pts_nil, st_yes⟩
theorem ts_one {c : Expr} {t : TT} {m : WT} (h : MT X c t m) : MTs X [c] t m := ⟨pts_one h.pt, h.st⟩
theorem m_lc {elt tg iter : Expr} {ifs : List Expr} {scope : Scope} {own : List (Str × Nat)} {wi : TI} {mi : WI} {g : TG} {mg : WG} {sl : List Nat} {tt : TT} {mt : WT} {te : TE} {me : WE} (hc : X.calm = true) (hN : X.N.Nodup) (hi : MI X tg iter wi mi) (ok : BlkOk X.N X.env.scope scope own)
    (hg : ∀ (s : Shared) (H : Hp) (C : Addr) (cl : List (Str × Addr)) (fp : List Addr), MG (X.blk s H scope (compEnvC scope cl C X.env) fp) tg g mg sl) (ht : ∀ (s : Shared) (H : Hp) (C : Addr) (cl : List (Str × Addr)) (fp : List Addr), MTs (X.blk s H scope (compEnvC scope cl C X.env) fp) ifs tt mt)
    (he : ∀ (s : Shared) (H : Hp) (C : Addr) (cl : List (Str × Addr)) (fp : List Addr), ME (X.blk s H scope (compEnvC scope cl C X.env) fp) elt te me) (hsl : ∀ i ∈ sl, i ∈ own.map (·.2)) (hs : ∀ x, foldedSetIterable iter X.env x = pure x := by intro _; rfl) :
    ME X (.ListComp elt [⟨tg, iter, ifs, 0⟩] scope pos) (tLc wi g tt te (own.map (·.2))) (wLc mi mg mt me (own.map (·.2))) :=
  ⟨pe_lc hc hN hi.pi ok (fun s H C cl fp => (hg s H C cl fp).pg) (fun s H C cl fp => (ht s H C cl fp).pt) (fun s H C cl fp => (he s H C cl fp).pe) hs,
   se_lc hsl hi.si (hg X.s_0 X.H_0 0 [] []).sg (ht X.s_0 X.H_0 0 [] []).st (he X.s_0 X.H_0 0 [] []).se⟩
end
end Mo

namespace Mo
open PySem PySem.Spec PyProof.Rows L2

/-! ### statements -/
structure DW where
  nx : Rho → Prop
  rt : D → Prop
  bk : Rho → Prop := fun _ => False
  ct : Rho → Prop := fun _ => False
abbrev WS := DW → Rho → Prop
def Wd.msk (W : Wd) (mu : Addr → Prop) : Wd := ⟨mu, W.bx, W.dl, W.dg⟩
/-- where one stands in a def's body: entered at H0 in the world W0; what G holds is neither hidden nor changed -/
structure AtM (W0 : Wd) (H0 G : Hp) (σ : L2.St) (H : Hp) (ρ : Rho) (mu : Addr → Prop) : Prop where
  ok0 : W0.Ok H0
  sub : ∀ a, W0.mu a → mu a
  new : ∀ a, mu a → W0.mu a ∨ H0 a = none
  le : W0.Le H0 H
  gd : ∀ a o, G a = some o → H a = some o ∧ ¬ mu a
  ok : (W0.msk mu).Ok H
  re : RepE (W0.msk mu) H σ ρ
  own : ∀ (i : Nat) xs p, ρ[i]? = some (.own xs) → σ[i]? = some (some (.ref p)) → H0 p = none
  dis : ∀ (i j : Nat) xs ys p, ρ[i]? = some (.own xs) → ρ[j]? = some (.own ys) → σ[i]? = some (some (.ref p)) → σ[j]? = some (some (.ref p)) → i = j
def At (W0 : Wd) (H0 G : Hp) (σ : L2.St) (H : Hp) (ρ : Rho) : Prop := ∃ mu, AtM W0 H0 G σ H ρ mu
structure Mat (W0 : Wd) (H0 G : Hp) (De : DW) (Dh : Ends) : Prop where
  nx : ∀ ρ σ H, De.nx ρ → At W0 H0 G σ H ρ → Dh.nx σ H
  rt : ∀ d v H, De.rt d → W0.Le H0 H → W0.Ok H → Rep W0.mu H v d → Dh.rt v H
  bk : ∀ ρ σ H, De.bk ρ → At W0 H0 G σ H ρ → Dh.bk σ H
  ct : ∀ ρ σ H, De.ct ρ → At W0 H0 G σ H ρ → Dh.ct σ H
def SS (t : TS) (m : WS) : Prop := ∀ (W0 : Wd) (H0 G : Hp) (σ : L2.St) (H : Hp) (ρ : Rho) (De : DW), At W0 H0 G σ H ρ → m De ρ → ∀ Dh : Ends, Mat W0 H0 G De Dh → t Dh σ H
structure MS (X : Cx) (st : Stmt) (t : TS) (m : WS) : Prop where
  ps : PS X st t
  ss : SS t m
structure MSs (X : Cx) (st : List Stmt) (t : TS) (m : WS) : Prop where
  ps : PSs X st t
  ss : SS t m
theorem Wd.Le.msk {W : Wd} {mu : Addr → Prop} {H H' : Hp} (h : (W.msk mu).Le H H') : W.Le H H' := h
/-- behind an expression, and a store of slots that makes nothing own -/
theorem AtM.step {W0 : Wd} {H0 G : Hp} {σ σ' : L2.St} {H H' : Hp} {ρ ρ' : Rho} {mu : Addr → Prop} (a : AtM W0 H0 G σ H ρ mu) (l : (W0.msk mu).Le H H') (k : (W0.msk mu).Ok H') (re : RepE (W0.msk mu) H' σ' ρ')
    (ow : ∀ (i : Nat) xs, ρ'[i]? = some (.own xs) → ρ[i]? = some (.own xs) ∧ σ'[i]? = σ[i]?) : AtM W0 H0 G σ' H' ρ' mu where
  ok0 := a.ok0
  sub := a.sub
  new := a.new
  le := a.le.trans l.msk
  gd := fun b o h => ⟨(l b o (a.gd b o h).1).1 (a.ok.nbx (a.gd b o h).2), (a.gd b o h).2⟩
  ok := k
  re := re
  own := fun i xs p h1 h2 => by
    obtain ⟨h3, h4⟩ := ow i xs h1
    rw [h4] at h2
    exact a.own i xs p h3 h2
  dis := fun i j xs ys p h1 h2 h3 h4 => by
    obtain ⟨g1, g2⟩ := ow i xs h1
    obtain ⟨g3, g4⟩ := ow j ys h2
    rw [g2] at h3
    rw [g4] at h4
    exact a.dis i j xs ys p g1 g3 h3 h4
theorem AtM.same {W0 : Wd} {H0 G : Hp} {σ : L2.St} {H H' : Hp} {ρ : Rho} {mu : Addr → Prop} (a : AtM W0 H0 G σ H ρ mu) (l : (W0.msk mu).Le H H') (k : (W0.msk mu).Ok H') : AtM W0 H0 G σ H' ρ mu :=
  a.step l k (a.re.le a.ok l) fun _ _ h => ⟨h, rfl⟩
theorem AtM.ret {W0 : Wd} {H0 G : Hp} {σ : L2.St} {H H' : Hp} {ρ : Rho} {mu : Addr → Prop} {v : V} {d : D} (a : AtM W0 H0 G σ H ρ mu) (l : (W0.msk mu).Le H H') (k : (W0.msk mu).Ok H') (r : Rep mu H' v d) : W0.Le H0 H' ∧ W0.Ok H' ∧ Rep W0.mu H' v d :=
  ⟨a.le.trans l.msk, ⟨fun b h => k.1 b (a.sub b h), fun b h => ⟨(a.ok0.2 b h).1, (k.2 b h).2⟩⟩, r.stays fun b u n h => ⟨fun z => n (a.sub b z), h⟩⟩

def sNext : WS := fun De ρ => De.nx ρ
def sSeq (a b : WS) : WS := fun De ρ => a { De with nx := b De } ρ
def sRet (m : WE) : WS := fun De ρ => m ρ De.rt
def sRetN : WS := fun De _ => De.rt .none
def sBrk : WS := fun De ρ => De.bk ρ
def sCon : WS := fun De ρ => De.ct ρ
def sAsg (m : WE) (g : WG) : WS := fun De ρ => m ρ fun d => g d ρ De.nx
def sDrop (m : WE) : WS := fun De ρ => m ρ fun _ => De.nx ρ
def sIf (t : WT) (a b : WS) : WS := fun De ρ => t ρ fun k => if k = true then a De ρ else b De ρ
theorem ss_next : SS tNext sNext := fun W0 H0 G σ H ρ De a h Dh q => q.nx ρ σ H h a
theorem ss_seq {t u : TS} {m n : WS} (h1 : SS t m) (h2 : SS u n) : SS (tSeq t u) (sSeq m n) := fun W0 H0 G σ H ρ De a h Dh q =>
  h1 W0 H0 G σ H ρ _ a h _ ⟨fun ρ' σ' H' g b => h2 W0 H0 G σ' H' ρ' De b g Dh q, q.rt, q.bk, q.ct⟩
theorem ss_ret {t : TE} {m : WE} (h : SE t m) : SS (tRet t) (sRet m) := fun W0 H0 G σ H ρ De ⟨mu, a⟩ g Dh q =>
  h (W0.msk mu) ρ σ H _ a.ok a.re g _ fun d v H1 g1 l1 k1 r1 => by
    obtain ⟨z1, z2, z3⟩ := a.ret l1 k1 r1
    exact q.rt d v H1 g1 z1 z2 z3
theorem ss_retN : SS tRetN sRetN := fun W0 H0 G σ H ρ De ⟨mu, a⟩ g Dh q => by
  obtain ⟨z1, z2, z3⟩ := a.ret (.refl H) a.ok .non
  exact q.rt _ _ H g z1 z2 z3
theorem ss_brk : SS tBreak sBrk := fun W0 H0 G σ H ρ De a h Dh q => q.bk ρ σ H h a
theorem ss_con : SS tCont sCon := fun W0 H0 G σ H ρ De a h Dh q => q.ct ρ σ H h a
theorem ss_asg {t : TE} {m : WE} {g : TG} {mg : WG} {sl : List Nat} (h : SE t m) (hg : SG g mg sl) : SS (tAsg t g) (sAsg m mg) := fun W0 H0 G σ H ρ De ⟨mu, a⟩ g Dh q =>
  h (W0.msk mu) ρ σ H _ a.ok a.re g _ fun d v H1 g1 l1 k1 r1 => hg (W0.msk mu) ρ σ H1 d v _ k1 (a.re.le a.ok l1) r1 g1 _ fun ρ' σ' g2 re2 _ _ ow => q.nx ρ' σ' H1 g2 ⟨mu, a.step l1 k1 re2 ow⟩
theorem ss_drop {t : TE} {m : WE} (h : SE t m) : SS (tDrop t) (sDrop m) := fun W0 H0 G σ H ρ De ⟨mu, a⟩ g Dh q =>
  h (W0.msk mu) ρ σ H _ a.ok a.re g _ fun d v H1 g1 l1 k1 r1 => q.nx ρ σ H1 g1 ⟨mu, a.same l1 k1⟩
theorem ss_if {c : TT} {mc : WT} {t u : TS} {m n : WS} (hc : ST c mc) (h1 : SS t m) (h2 : SS u n) : SS (tIfS c t u) (sIf mc m n) := fun W0 H0 G σ H ρ De ⟨mu, a⟩ g Dh q =>
  hc (W0.msk mu) ρ σ H _ a.ok a.re g _ fun b H1 g1 l1 k1 => by
    cases b with
    | true => exact h1 W0 H0 G σ H1 ρ De ⟨mu, a.same l1 k1⟩ g1 Dh q
    | false => exact h2 W0 H0 G σ H1 ρ De ⟨mu, a.same l1 k1⟩ g1 Dh q
section
variable {X : Cx} {pos : Pos}
theorem s_nil : MSs X [] tNext sNext := ⟨pss_nil, ss_next⟩
theorem s_cons {st : Stmt} {rest : List Stmt} {t u : TS} {m n : WS} (h1 : MS X st t m) (h2 : MSs X rest u n) : MSs X (st :: rest) (tSeq t u) (sSeq m n) := ⟨pss_cons h1.ps h2.ps, ss_seq h1.ss h2.ss⟩
theorem s_one {st : Stmt} {t : TS} {m : WS} (h1 : MS X st t m) : MSs X [st] t m := ⟨pss_one h1.ps, h1.ss⟩
theorem s_pass : MS X (.Pass pos) tNext sNext := ⟨ps_pass, ss_next⟩
theorem s_break : MS X (.Break pos) tBreak sBrk := ⟨ps_break, ss_brk⟩
theorem s_continue : MS X (.Continue pos) tCont sCon := ⟨ps_continue, ss_con⟩
theorem s_ret {e : Expr} {t : TE} {m : WE} (h : ME X e t m) : MS X (.Return (some e) pos) (tRet t) (sRet m) := ⟨ps_ret h.pe, ss_ret h.se⟩
theorem s_retN : MS X (.Return none pos) tRetN sRetN := ⟨ps_retN, ss_retN⟩
theorem s_expr {e : Expr} {t : TE} {m : WE} (h : ME X e t m) (hs : swapsWith e none pos.line X.env = pure false := by rfl) : MS X (.Expr e pos) (tDrop t) (sDrop m) := ⟨ps_expr h.pe hs, ss_drop h.se⟩
theorem s_if {c : Expr} {a b : List Stmt} {tc : TT} {mc : WT} {t u : TS} {m n : WS} (hc : MT X c tc mc) (h1 : MSs X a t m) (h2 : MSs X b u n) : MS X (.If c a b pos) (tIfS tc t u) (sIf mc m n) := ⟨ps_if hc.pt h1.ps h2.ps, ss_if hc.st h1.ss h2.ss⟩
theorem s_asg {tg e : Expr} {t : TE} {m : WE} {g : TG} {mg : WG} {sl : List Nat} (he : ME X e t m) (hg : MG X tg g mg sl) (hs : swapsWithSole [tg] e pos.line X.env = pure false := by rfl) (hw : swappedStores [tg] e X.env = pure none := by rfl) (h1 : (assignEach [tg] X.env).map (·.2) = [assign tg X.env] := by rfl) : MS X (.Assign [tg] e pos) (tAsg t g) (sAsg m mg) := ⟨ps_asg he.pe hg.pg hs hw h1, ss_asg he.se hg.sg⟩
end

/-! ### loops -/
def sGo (mg : WG) (mb : WS) (De : DW) : List D → Rho → Prop
  | [], ρ => De.nx ρ
  | d :: ds, ρ => mg d ρ fun ρ1 => mb { nx := sGo mg mb De ds, rt := De.rt, ct := sGo mg mb De ds, bk := De.nx } ρ1
def sFor (mi : WI) (mg : WG) (mb : WS) : WS := fun De ρ => mi ρ fun ds => sGo mg mb De ds ρ
def Gof (G : Hp) (mu : Addr → Prop) (H : Hp) : Hp → Prop := fun G' => (∀ a o, G' a = some o ↔ H a = some o ∧ ¬ mu a)
theorem gof_ex (mu : Addr → Prop) (H : Hp) : ∃ G' : Hp, ∀ a o, G' a = some o ↔ H a = some o ∧ ¬ mu a := by
  classical
  refine ⟨fun a => if mu a then none else H a, fun a o => ?_⟩
  by_cases h : mu a
  · simp [h]
  · simp [h]
theorem AtM.g {W0 : Wd} {H0 G G' : Hp} {σ : L2.St} {H : Hp} {ρ : Rho} {mu : Addr → Prop} (a : AtM W0 H0 G σ H ρ mu) (h : ∀ b o, G' b = some o → H b = some o ∧ ¬ mu b) : AtM W0 H0 G' σ H ρ mu := { a with gd := h }
theorem ss_for {wi : TI} {mi : WI} {g : TG} {mg : WG} {sl : List Nat} {tb : TS} {mb : WS} (hi : SI wi mi) (hg : SG g mg sl) (hb : SS tb mb) : SS (tFor wi g tb) (sFor mi mg mb) := fun W0 H0 G σ H ρ De ⟨mu, a⟩ gg Dh q =>
  hi (W0.msk mu) ρ σ H _ a.ok a.re gg _ fun ds J H1 g1 l1 k1 it => by
    have a1 := a.same l1 k1
    obtain ⟨G', hG'⟩ := gof_ex mu H1
    have sub : ∀ b o, G b = some o → G' b = some o := fun b o h => (hG' b o).mpr (a1.gd b o h)
    have later : ∀ {σ2 : L2.St} {H2 : Hp} {ρ2 : Rho} {mu2 : Addr → Prop}, AtM W0 H0 G' σ2 H2 ρ2 mu2 → (W0.msk mu).Lt H1 H2 := fun {σ2 H2 ρ2 mu2} x b o n h => (x.gd b o ((hG' b o).mpr ⟨h, n⟩)).1
    refine ⟨fun i m σ2 H2 => m = ds.length - i ∧ i ≤ ds.length ∧ ∃ ρ2, At W0 H0 G' σ2 H2 ρ2 ∧ sGo mg mb De (ds.drop i) ρ2, ⟨ds.length, rfl, Nat.zero_le _, ρ, ⟨mu, a1.g fun b o h => (hG' b o).mp h⟩, g1⟩, ?_⟩
    rintro i m σ2 H2 ⟨rfl, hin, ρ2, ⟨mu2, a2⟩, go⟩
    by_cases hlt : i < ds.length
    · refine .inr ⟨it.go i H2 hlt (later a2), fun σ3 H3 => ∃ ρ3, At W0 H0 G' σ3 H3 ρ3 ∧ sGo mg mb De (ds.drop (i + 1)) ρ3, fun σ3 H3 h3 => ⟨ds.length - (i + 1), by omega, rfl, hlt, h3⟩, fun x H3 y => ?_⟩
      obtain ⟨d, hd, ex, rep⟩ := it.yld i H2 x H3 (later a2) hlt y
      have hdrop : ds.drop i = d :: ds.drop (i + 1) := by
        rw [List.drop_eq_getElem_cons hlt]
        rw [List.getElem?_eq_getElem hlt] at hd
        rw [Option.some.inj hd]
      rw [hdrop] at go
      have l3 : (W0.msk mu2).Le H2 H3 := Ex.le ex
      have k3 := a2.ok.ex ex
      have r3 : Rep mu2 H3 x d := rep mu2 (fun b hb => by
        by_cases h : mu b
        · exact .inl h
        · cases e : H1 b with
          | none => exact .inr rfl
          | some o => exact absurd hb (a2.gd b o ((hG' b o).mpr ⟨e, h⟩)).2) a2.ok.1
      refine hg (W0.msk mu2) ρ2 σ2 H3 d x _ k3 (a2.re.le a2.ok l3) r3 go _ fun ρ4 σ4 g4 re4 _ _ ow => ?_
      have a4 := a2.step l3 k3 re4 ow
      exact hb W0 H0 G' σ4 H3 ρ4 _ ⟨mu2, a4⟩ g4 _ ⟨fun ρ5 σ5 H5 g5 a5 => ⟨ρ5, a5, g5⟩, q.rt, fun ρ5 σ5 H5 g5 ⟨mu5, a5⟩ => q.nx ρ5 σ5 H5 g5 ⟨mu5, a5.g fun b o h => a5.gd b o (sub b o h)⟩, fun ρ5 σ5 H5 g5 a5 => ⟨ρ5, a5, g5⟩⟩
    · have e : i = ds.length := by omega
      subst e
      rw [List.drop_length] at go
      exact .inl ⟨it.stop H2 (later a2), q.nx ρ2 σ2 H2 go ⟨mu2, a2.g fun b o h => a2.gd b o (sub b o h)⟩⟩
def sWh (mt : WT) (mb : WS) (De : DW) : Nat → Rho → Prop
  | 0, _ => False
  | n + 1, ρ => mt ρ fun b => if b = true then mb { nx := sWh mt mb De n, rt := De.rt, ct := sWh mt mb De n, bk := De.nx } ρ else De.nx ρ
def sWhile (mt : WT) (mb : WS) : WS := fun De ρ => ∃ n, sWh mt mb De n ρ
theorem ss_while {c : TT} {mc : WT} {tb : TS} {mb : WS} (hc : ST c mc) (hb : SS tb mb) : SS (tWhile c tb) (sWhile mc mb) := fun W0 H0 G σ H ρ De a ⟨n, gg⟩ Dh q => by
  refine ⟨fun m σ2 H2 => ∃ ρ2, At W0 H0 G σ2 H2 ρ2 ∧ sWh mc mb De m ρ2, ⟨n, ρ, a, gg⟩, ?_⟩
  rintro m σ2 H2 ⟨ρ2, ⟨mu2, a2⟩, go⟩
  cases m with
  | zero => exact go.elim
  | succ m =>
    refine hc (W0.msk mu2) ρ2 σ2 H2 _ a2.ok a2.re go _ fun b H3 g3 l3 k3 => ?_
    have a3 := a2.same l3 k3
    cases b with
    | false =>
      simp only [Bool.false_eq_true, if_false] at g3 ⊢
      exact q.nx ρ2 σ2 H3 g3 ⟨mu2, a3⟩
    | true =>
      simp only [if_true] at g3 ⊢
      exact ⟨fun σ4 H4 => ∃ ρ4, At W0 H0 G σ4 H4 ρ4 ∧ sWh mc mb De m ρ4, fun σ4 H4 h4 => ⟨m, Nat.lt_succ_self m, h4⟩, hb W0 H0 G σ2 H3 ρ2 _ ⟨mu2, a3⟩ g3 _ ⟨fun ρ5 σ5 H5 g5 a5 => ⟨ρ5, a5, g5⟩, q.rt, fun ρ5 σ5 H5 g5 a5 => q.nx ρ5 σ5 H5 g5 a5, fun ρ5 σ5 H5 g5 a5 => ⟨ρ5, a5, g5⟩⟩⟩
section
variable {X : Cx} {pos : Pos}
theorem s_for {tg iter : Expr} {body : List Stmt} {wi : TI} {mi : WI} {g : TG} {mg : WG} {sl : List Nat} {tb : TS} {mb : WS} (hp : PassesOwn (model X.prog X.w) X.A X.env X.xe) (hc : X.calm = true) (hi : MI X tg iter wi mi) (hg : MG X tg g mg sl) (hb : MSs X body tb mb)
    (hs : ∀ x, foldedSetIterable iter X.env x = pure x := by intro _; rfl) : MS X (.For tg iter body [] pos) (tFor wi g tb) (sFor mi mg mb) := ⟨ps_for hp hc hi.pi hg.pg hb.ps hs, ss_for hi.si hg.sg hb.ss⟩
theorem s_while {c : Expr} {body : List Stmt} {tc : TT} {mc : WT} {tb : TS} {mb : WS} (hp : PassesOwn (model X.prog X.w) X.A X.env X.xe) (hc : MT X c tc mc) (hb : MSs X body tb mb) : MS X (.While c body [] pos) (tWhile tc tb) (sWhile mc mb) := ⟨ps_while hp hc.pt hb.ps, ss_while hc.st hb.ss⟩
end

/-! ### lists that a def makes and fills -/
def sOwn (i : Nat) (m : WA) : WS := fun De ρ => m ρ fun ds => ds.length ≤ sizeLine ∧ i < ρ.length ∧ De.nx (ρ.set i (.own ds))
def sApp (i : Nat) (m : WE) : WS := fun De ρ => ∃ xs, ρ[i]? = some (.own xs) ∧ m ρ fun d => xs.length < sizeLine ∧ De.nx (ρ.set i (.own (xs ++ [d])))
/-- from here on the list at slot i does not change -/
def sFrz (i : Nat) (m : WS) : WS := fun De ρ => ∃ xs, ρ[i]? = some (.own xs) ∧ m De (ρ.set i (.d (.list xs)))
theorem set_own {ρ : Rho} {i j : Nat} {s : S} {xs : List D} (h : (ρ.set i s)[j]? = some (.own xs)) : (i = j ∧ s = .own xs) ∨ (i ≠ j ∧ ρ[j]? = some (.own xs)) := by
  by_cases e : i = j
  · subst e
    rw [List.getElem?_set] at h
    simp at h
    exact .inl ⟨rfl, h.2⟩
  · rw [List.getElem?_set_ne e] at h
    exact .inr ⟨e, h⟩
theorem ss_own {i : Nat} {t : TA} {m : WA} (h : SA t m) : SS (tAsg (tLst t) (gName i)) (sOwn i m) := fun W0 H0 G σ H ρ De ⟨mu, a⟩ gg Dh q =>
  h (W0.msk mu) ρ σ H _ a.ok a.re gg _ fun ds vs H1 ⟨hz, hi, g1⟩ l1 k1 r1 => ⟨by rw [r1.length]; exact hz, fun p hp => by
    have a1 := a.same l1 k1
    have np : ¬ mu p := k1.fresh hp
    have hp0 : H0 p = none := by
      cases e : H0 p with
      | none => rfl
      | some o =>
        obtain ⟨_, o', z⟩ := a1.le p o e
        rw [hp] at z
        cases z
    refine q.nx _ _ _ g1 ⟨((W0.msk mu).plus p).mu, ?_⟩
    have st : Stays mu ((W0.msk mu).plus p).mu H1 (upd H1 p (.lst vs)) := stays_hide k1 (Ex.le (Ex.new hp)) fun b z => z.elim .inl fun z => .inr (by rw [z]; exact hp)
    have nslot : ∀ (j : Nat) xs, i ≠ j → ρ[j]? = some (.own xs) → σ[j]? = some (some (.ref p)) → False := fun j xs _ h1 h2 => by
      obtain ⟨p', vs', e1, e2, _⟩ := a1.re.at_ j _ h1
      rw [h2] at e1
      cases e1
      exact np e2
    have hil : i < σ.length := by rw [← a.re.len]; exact hi
    refine ⟨a.ok0, fun b hb => .inl (a.sub b hb), fun b hb => hb.elim (a.new b) fun z => .inr (by rw [z]; exact hp0), a1.le.trans (Ex.le (Ex.new hp)), fun b o hb => ?_, (ok_new k1 hp).plus ⟨_, upd_same⟩, ?_, fun j xs p' h1 h2 => ?_, fun j j' xs ys p' h1 h2 h3 h4 => ?_⟩
    · obtain ⟨z1, z2⟩ := a1.gd b o hb
      have hne := ne_of_none z1 hp
      exact ⟨by rw [upd_ne hne]; exact z1, fun z => z.elim z2 hne⟩
    · have re1 : RepE ((W0.msk mu).plus p) (upd H1 p (.lst vs)) σ ρ := a1.re.plus k1 (Ex.le (Ex.new hp)) hp
      refine ⟨by rw [List.length_set, List.length_set]; exact re1.len, fun j s hj => ?_⟩
      by_cases e : i = j
      · subst e
        rw [List.getElem?_set_self hi] at hj
        cases hj
        rw [List.getElem?_set_self hil]
        exact ⟨p, vs, rfl, .inr rfl, k1.nbx np, upd_same, r1.stays st⟩
      · rw [List.getElem?_set_ne e] at hj
        rw [List.getElem?_set_ne e]
        exact re1.at_ j s hj
    · rcases set_own h1 with ⟨e, _⟩ | ⟨e, h1⟩
      · subst e
        rw [List.getElem?_set_self hil] at h2
        cases h2
        exact hp0
      · rw [List.getElem?_set_ne e] at h2
        exact a1.own j xs p' h1 h2
    · rcases set_own h1 with ⟨e, _⟩ | ⟨e, h1⟩ <;> rcases set_own h2 with ⟨e', _⟩ | ⟨e', h2⟩
      · exact e.symm.trans e'
      · subst e
        rw [List.getElem?_set_self hil] at h3
        cases h3
        rw [List.getElem?_set_ne e'] at h4
        exact (nslot j' ys e' h2 h4).elim
      · subst e'
        rw [List.getElem?_set_self hil] at h4
        cases h4
        rw [List.getElem?_set_ne e] at h3
        exact (nslot j xs e h1 h3).elim
      · rw [List.getElem?_set_ne e] at h3
        rw [List.getElem?_set_ne e'] at h4
        exact a1.dis j j' xs ys p' h1 h2 h3 h4⟩
theorem ss_app {K : PySem.W.Frag} {i : Nat} {t : TE} {m : WE} (h : SE t m) : SS (tDrop (tBM K "list" rAppend (tVar i) (tCons t tNil))) (sApp i m) := fun W0 H0 G σ H ρ De ⟨mu, a⟩ ⟨xs, hx, gg⟩ Dh q => by
  obtain ⟨p, vs, e1, e2, e3, e4, e5⟩ := a.re.at_ i _ hx
  refine ⟨.ref p, e1, .inl ⟨rfl, vs, sqL_of e4⟩, h (W0.msk mu) ρ σ H _ a.ok a.re gg _ fun d v H1 ⟨hz, g1⟩ l1 k1 r1 => ?_⟩
  have a1 := a.same l1 k1
  have e4' : H1 p = some (.lst vs) := (l1 p _ e4).1 e3
  have e5' := e5.le a.ok l1
  have hi : i < ρ.length := (List.getElem?_eq_some_iff.mp hx).1
  have hp0 : H0 p = none := a.own i xs p hx e1
  have st : Stays mu mu H1 (upd H1 p (.lst (vs ++ [v]))) := fun b u n z => ⟨n, by rw [upd_ne (fun e => n (by rw [e]; exact e2))]; exact z⟩
  refine ⟨p, vs, v, rfl, rfl, e4', by rw [e5.length]; exact hz, q.nx _ _ _ g1 ⟨mu, ?_⟩⟩
  have hne0 : ∀ b o, H0 b = some o → b ≠ p := fun b o z => ne_of_none z hp0
  refine ⟨a.ok0, a.sub, a.new, fun b o z => ?_, fun b o hb => ?_, ⟨fun b z => ?_, fun b z => ?_⟩, ⟨by rw [List.length_set]; exact a1.re.len, fun j s hj => ?_⟩, fun j ys p' h1 h2 => ?_, fun j j' ys zs p' h1 h2 h3 h4 => ?_⟩
  · rw [upd_ne (hne0 b o z)]; exact a1.le b o z
  · obtain ⟨z1, z2⟩ := a1.gd b o hb
    exact ⟨by rw [upd_ne (fun e => z2 (by rw [e]; exact e2))]; exact z1, z2⟩
  · by_cases e : b = p
    · exact ⟨_, by rw [e]; exact upd_same⟩
    · rw [upd_ne e]; exact k1.1 b z
  · refine ⟨(k1.2 b z).1, ?_⟩
    obtain ⟨n, f1, f2⟩ := (k1.2 b z).2
    obtain ⟨n0, f3, f4⟩ := (a.ok0.2 b z).2
    exact ⟨n, by rw [upd_ne (hne0 _ _ f3)]; exact f1, by
      show upd H1 p _ W0.dl = _
      rw [upd_ne (hne0 _ _ f4)]
      exact f2⟩
  · by_cases e : i = j
    · subst e
      rw [List.getElem?_set_self hi] at hj
      cases hj
      exact ⟨p, _, e1, e2, e3, upd_same, (e5'.append (.cons r1 .nil)).stays st⟩
    · rw [List.getElem?_set_ne e] at hj
      have r := a1.re.at_ j s hj
      cases s with
      | un => trivial
      | d x => obtain ⟨w, h1, h2⟩ := r; exact ⟨w, h1, h2.stays st⟩
      | box => exact r
      | own ys =>
        obtain ⟨p', ws, h1, h2, h3, h4, h5⟩ := r
        have np : p' ≠ p := fun z => by
          subst z
          exact e (a.dis i j xs ys p' hx hj e1 h1)
        exact ⟨p', ws, h1, h2, h3, by rw [upd_ne np]; exact h4, h5.stays st⟩
  · rcases set_own h1 with ⟨e, _⟩ | ⟨e, h1⟩
    · subst e; exact a1.own i xs p' hx h2
    · exact a1.own j ys p' h1 h2
  · have up : ∀ (j : Nat) ys, (ρ.set i (.own (xs ++ [d])))[j]? = some (.own ys) → ∃ zs, ρ[j]? = some (.own zs) := fun j ys h => by
      rcases set_own h with ⟨e, _⟩ | ⟨_, h⟩
      · subst e; exact ⟨xs, hx⟩
      · exact ⟨ys, h⟩
    obtain ⟨y1, h1⟩ := up j ys h1
    obtain ⟨y2, h2⟩ := up j' zs h2
    exact a1.dis j j' y1 y2 p' h1 h2 h3 h4
theorem ss_frz {i : Nat} {t : TS} {m : WS} (h : SS t m) : SS t (sFrz i m) := fun W0 H0 G σ H ρ De ⟨mu, a⟩ ⟨xs, hx, gg⟩ Dh q => by
  obtain ⟨p, vs, e1, e2, e3, e4, e5⟩ := a.re.at_ i _ hx
  have hi : i < ρ.length := (List.getElem?_eq_some_iff.mp hx).1
  have hp0 : H0 p = none := a.own i xs p hx e1
  have n0 : ¬ W0.mu p := a.ok0.fresh hp0
  refine h W0 H0 G σ H _ De ⟨fun b => mu b ∧ b ≠ p, ?_⟩ gg Dh q
  have st : Stays mu (fun b => mu b ∧ b ≠ p) H H := fun b u n z => ⟨fun y => n y.1, z⟩
  refine ⟨a.ok0, fun b z => ⟨a.sub b z, fun e => n0 (by rw [← e]; exact z)⟩, fun b z => a.new b z.1, a.le, fun b o z => ⟨(a.gd b o z).1, fun y => (a.gd b o z).2 y.1⟩, ⟨fun b z => a.ok.1 b z.1, fun b z => ⟨⟨(a.ok.2 b z).1, fun e => e3 (by rw [← e]; exact z)⟩, (a.ok.2 b z).2⟩⟩,
    ⟨by rw [List.length_set]; exact a.re.len, fun j s hj => ?_⟩, fun j ys p' h1 h2 => ?_, fun j j' ys zs p' h1 h2 h3 h4 => ?_⟩
  · by_cases e : i = j
    · subst e
      rw [List.getElem?_set_self hi] at hj
      cases hj
      exact ⟨.ref p, e1, .lst (fun z => z.2 rfl) e4 (e5.stays st)⟩
    · rw [List.getElem?_set_ne e] at hj
      have r := a.re.at_ j s hj
      cases s with
      | un => trivial
      | d x => obtain ⟨w, h1, h2⟩ := r; exact ⟨w, h1, h2.stays st⟩
      | box => exact r
      | own ys =>
        obtain ⟨p', ws, h1, h2, h3, h4, h5⟩ := r
        exact ⟨p', ws, h1, ⟨h2, fun z => by subst z; exact e (a.dis i j xs ys p' hx hj e1 h1)⟩, h3, h4, h5.stays st⟩
  · rcases set_own h1 with ⟨e, z⟩ | ⟨e, h1⟩
    · cases z
    · exact a.own j ys p' h1 h2
  · rcases set_own h1 with ⟨e, z⟩ | ⟨e, h1⟩
    · cases z
    · rcases set_own h2 with ⟨e, z⟩ | ⟨e, h2⟩
      · cases z
      · exact a.dis j j' ys zs p' h1 h2 h3 h4
section
variable {X : Cx} {pos : Pos}
theorem s_own {i : Nat} {x : Str} {es : List Expr} {t : TA} {m : WA} {p2 pos' : Pos} (hN : X.N.Nodup) (hi : X.N[i]? = some x) (hx : Loc X.env.scope x) (h : MA X es t m) (hs : swapsWith (.List es p2) (some (.Name x pos')) pos.line X.env = pure false := by rfl) (hf : X.fn x = true ∨ X.env.scope.names.lookup x = some .local := by first | exact .inl rfl | exact .inr rfl | assumption) :
    MS X (.Assign [.Name x pos'] (.List es p2) pos) (tAsg (tLst t) (gName i)) (sOwn i m) := ⟨ps_set hN hi hx (pe_lst h.pa) hs hf, ss_own h.sa⟩
theorem s_frz (i : Nat) {st : List Stmt} {t : TS} {m : WS} (h : MSs X st t m) : MSs X st t (sFrz i m) := ⟨h.ps, ss_frz h.ss⟩
end

/-! ### a def -/
def wDef (np n : Nat) (m : WS) : List S → (D → Prop) → Prop := fun ss Q => ss.length = np ∧ m { nx := fun _ => Q .none, rt := Q } (ss ++ List.replicate (n - ss.length) .un)
theorem repE_start {W : Wd} {H : Hp} {vs : List V} {ss : List S} (n : Nat) (r : RepSs W H vs ss) (hn : ∀ s ∈ ss, ∀ xs, s ≠ .own xs) : RepE W H (vs.map some ++ List.replicate (n - vs.length) none) (ss ++ List.replicate (n - ss.length) .un) := by
  refine ⟨by simp [r.length], fun i s h => ?_⟩
  by_cases hi : i < ss.length
  · rw [List.getElem?_append_left hi] at h
    rw [List.getElem?_append_left (by simp [r.length]; exact hi), List.getElem?_map]
    clear hn
    induction r generalizing i with
    | nil => cases h
    | cons a t ih =>
      cases i with
      | zero => simp at h; subst h; exact a
      | succ i => exact ih i (by simpa using h) (by simpa using hi)
  · rw [List.getElem?_append_right (by omega)] at h
    rw [List.getElem?_replicate] at h
    split at h
    · cases h; trivial
    · cases h
def dOnly : List S → Prop := fun ss => ∀ s ∈ ss, ∀ xs, s ≠ .own xs
section
variable {P : Program} {w : World} {K : PySem.W.Frag} {mg : Str → Option Value} {base : Heap}
def wFn (np n : Nat) (m : WS) : List S → (D → Prop) → Prop := fun ss Q => dOnly ss ∧ wDef np n m ss Q
theorem fn_mo {x qual : Str} {st : Stmt} {f : Addr} {fd : FuncData} {N ps : List Str} {k : Nat} {m : WS} (F : Fun K x qual st f fd) (S : FnScope N ps (defScope st))
    (h : ∀ (cdv : Value) (A : Around) (outer : List Env) (s : Shared) (H : Hp) (E : XK), Room k (A.deeper (envOfC qual (defScope st) s.heap.objs.size f cdv)) → ∃ t, MSs (cxOf CX0 P w K mg base N qual (defScope st) f cdv A outer s H E).nox (defBody st) t m) :
    FnOk P w K mg base CX0 (k + 1) f fd ps (spD (wFn ps.length N.length m)) := by
  refine F.ok S (fun vs H Q E hs => ?_) (fun cdv A outer s H vs Q E hr hs => ?_)
  · obtain ⟨W, ss, Qd, k1, r1, ⟨_, h1, _⟩, _⟩ := hs
    rw [r1.length, h1]
  · obtain ⟨t, ht⟩ := h cdv A outer s H E hr
    obtain ⟨W, ss, Qd, k1, r1, ⟨hd, h1, h2⟩, q⟩ := hs
    refine ⟨t, ht.ps, ht.ss W H (fun _ => none) _ H _ _ ⟨W.mu, k1, fun a h => h, fun a h => .inl h, .refl H, fun a o h => (nomatch h), k1, repE_start N.length r1 hd, fun i xs p h3 => ?_, fun i j xs ys p h3 => ?_⟩ h2 _ ⟨fun ρ σ H1 g ⟨mu, a⟩ => ?_, fun d v H1 g l k2 r => q d v H1 g l k2 r, fun _ _ _ z => z.elim, fun _ _ _ z => z.elim⟩⟩
    · exfalso
      have hm := List.mem_of_getElem? h3
      rcases List.mem_append.mp hm with z | z
      · exact hd _ z xs rfl
      · rw [List.mem_replicate] at z; cases z.2
    · exfalso
      have hm := List.mem_of_getElem? h3
      rcases List.mem_append.mp hm with z | z
      · exact hd _ z xs rfl
      · rw [List.mem_replicate] at z; cases z.2
    · obtain ⟨z1, z2, z3⟩ := a.ret (.refl H1) a.ok .non
      exact q _ _ H1 g z1 z2 z3
end
end Mo

namespace Mo
open PySem PySem.Spec PyProof.Rows L2

/-! ### enumerate over a list, a tuple, a text -/
theorem enum_new1 {v : Value} {o : Obj} {HH : Heap → Prop} (B : Begins v o HH) :
    Meets (Builtin.«enumerate.__new__» ⟨[.type "enumerate", v], []⟩)
      (fun _ R s => HH s.heap ∧ R (.ok (.ret (.ref (s.heap.push o).objs.size)))
        { s with heap := (s.heap.push o).push { cls := .type "enumerate", data := .fields #[.none, .bool false, .ref s.heap.objs.size, rawInt 0, .none, .none] } }) :=
  .of_wp fun pr ww AA RR st hyp => by
    obtain ⟨hp, gg, dd, tk, oo⟩ := st
    obtain ⟨hyp1, hyp2⟩ := hyp
    have hsub := sub_enumerate
    have walks : ∀ {A' : Around} {E : Value → Shared → Prop} {Q : Value → Shared → Prop}, Q (.ref hp.objs.size) ⟨hp.push o, gg, dd, tk, oo⟩ →
        wpAny (model pr ww) A' (pyIter v) Q E ⟨hp, gg, dd, tk, oo⟩ := fun q => B.iter pr ww _ _ ⟨hp, gg, dd, tk, oo⟩ _ hyp1 q
    wp_walk using walks
    refine wpAny_stack_any fun _ => wpAny_pure ?_
    split
    · rename_i c _ _ _ _ _
      cases (c == Value.type "enumerate") <;> (wp_walk using walks; exact ⟨_, rfl, hyp2⟩)
    · wp_walk using walks
      exact ⟨_, rfl, hyp2⟩
theorem enum_call1 {prog : Program} {w : World} {A : Around} {E : Value → Shared → Prop} {s : Shared} {v : Value} {o : Obj} {HH : Heap → Prop} {Q : Value → Shared → Prop} (B : Begins v o HH) (h1 : HH s.heap)
    (h : ∀ h', IsEnum h' (s.heap.objs.size + 1) s.heap.objs.size 0 .none → h'.get? s.heap.objs.size = some o → (∀ b u, s.heap.get? b = some u → h'.get? b = some u) → Q (.ref (s.heap.objs.size + 1)) { s with heap := h' }) :
    wpAny (model prog w) A (call (.type "enumerate") [v]) Q E s := by
  refine callType_new F.called_enumerate (by decide) (F.typeCall_enumerate_1 _) (F.newCall_enumerate_1 _) (fun x => F.args_object_init_2 x _) F.entry_enumerate_new (enum_new1 B) ⟨h1, ?_⟩
  have hz : (s.heap.push o).objs.size = s.heap.objs.size + 1 := Heap.size_push ..
  show _ ∧ _
  rw [hz]
  have he := Heap.get?_push_size (s.heap.push o) (o := { cls := .type "enumerate", data := .fields #[.none, .bool false, .ref s.heap.objs.size, rawInt 0, .none, .none] }) rfl
  rw [hz] at he
  exact ⟨⟨_, he, rfl⟩, h _ he (Heap.get?_push_of_some _ (Heap.get?_push_size _ B.free)) fun b u x => Heap.get?_push_of_some _ (Heap.get?_push_of_some _ x)⟩

inductive Kd where
  | lst (a : Addr)
  | tup (a : Addr)
  | str (z : Str) (t : Tok)
def signsV (z : Str) : List V := z.cps.toList.map fun c => V.str ⟨#[c]⟩
def Kd.St : Kd → Addr → Nat → Heap → Prop
  | .lst a, it, i, h => h.IsListIter it a i
  | .tup a, it, i, h => h.IsTupleIter it a i
  | .str z t, it, i, h => h.IsStrIter it (strIterType z) z t i
def Kd.G : Kd → List V → Hp → Prop
  | .lst a, xs, H => H a = some (.lst xs)
  | .tup a, xs, H => H a = some (.tup xs)
  | .str z _, xs, _ => xs = signsV z
theorem Kd.obj {q : Kd} {it : Addr} {i : Nat} {h : Heap} (x : q.St it i h) : ∃ o, h.get? it = some o ∧ ∀ v, o.data ≠ .cell v := by
  cases q with
  | lst a => obtain ⟨o, e, _, d⟩ := x; exact ⟨o, e, fun v z => by rw [d] at z; cases z⟩
  | tup a => obtain ⟨o, e, _, d⟩ := x; exact ⟨o, e, fun v z => by rw [d] at z; cases z⟩
  | str z t => obtain ⟨o, e, _, d⟩ := x; exact ⟨o, e, fun v z => by rw [d] at z; cases z⟩
theorem Kd.keep {q : Kd} {it : Addr} {i : Nat} {h h' : Heap} (x : q.St it i h) (k : ∀ o, h.get? it = some o → h'.get? it = some o) : q.St it i h' := by
  cases q with
  | lst a => obtain ⟨o, e, c⟩ := x; exact ⟨o, k o e, c⟩
  | tup a => obtain ⟨o, e, c⟩ := x; exact ⟨o, k o e, c⟩
  | str z t => obtain ⟨o, e, c⟩ := x; exact ⟨o, k o e, c⟩
theorem Kd.draws (q : Kd) {X : Cx} {pins : List (Addr × Obj)} {σ : L2.St} {H : Hp} {s : Shared} {xs : List V} {it : Addr} (I : Inv X pins σ H s) (hh : X.A.handled = none) (hG : q.G xs H) (hit : H it = none) :
    ∃ (fp : List Addr) (P : Nat → Value → Prop) (St' : Nat → Heap → Prop), Draws X.prog X.w X.A.in1 it fp xs.length P St' ∧ (∀ i, q.St it i s.heap → St' i s.heap) ∧ (∀ i h, St' i h → q.St it i h) ∧
      (∀ i v, P i v → ∃ y, xs[i]? = some y ∧ RelV y v) ∧ ∀ b ∈ fp, b = it ∨ ∃ o, H b = some o := by
  cases q with
  | lst a =>
    have hG : H a = some (.lst xs) := hG
    obtain ⟨its, rv, p, hz⟩ := I.list (sqL_of hG)
    have hl : xs.length = its.toArray.size := by rw [rv.length, List.size_toArray]
    rw [hl]
    refine ⟨_, _, _, Draws.list (A := X.A.in1) hh it a (ne_of_none hG hit) its.toArray, fun i h => ⟨h, p.isList⟩, fun i h x => x.1, fun i v e => ?_, fun b hb => ?_⟩
    · cases e2 : xs[i]? with
      | none => have := rv.none_of e2; simp at e; rw [this] at e; cases e
      | some y =>
        obtain ⟨u, h1, h2⟩ := rv.get e2
        simp at e
        rw [h1] at e
        cases e
        exact ⟨y, rfl, h2⟩
    · have : b = it ∨ b = a := by simpa using hb
      exact this.imp_right fun z => ⟨_, by rw [z]; exact hG⟩
  | tup a =>
    have hG : H a = some (.tup xs) := hG
    obtain ⟨its, rv, p, hz⟩ := I.tuple (sqT_of hG)
    have hl : xs.length = its.toArray.size := by rw [rv.length, List.size_toArray]
    rw [hl]
    refine ⟨_, _, _, Draws.tuple (A := X.A.in1) hh it a (ne_of_none hG hit) its.toArray, fun i h => ⟨h, p⟩, fun i h x => x.1, fun i v e => ?_, fun b hb => ?_⟩
    · cases e2 : xs[i]? with
      | none => have := rv.none_of e2; simp at e; rw [this] at e; cases e
      | some y =>
        obtain ⟨u, h1, h2⟩ := rv.get e2
        simp at e
        rw [h1] at e
        cases e
        exact ⟨y, rfl, h2⟩
    · have : b = it ∨ b = a := by simpa using hb
      exact this.imp_right fun z => ⟨_, by rw [z]; exact hG⟩
  | str z t =>
    have hG : xs = signsV z := hG
    subst hG
    have hl : (signsV z).length = z.cps.size := by simp [signsV]
    rw [hl]
    refine ⟨_, _, _, Draws.text (A := X.A.in1) hh it z t, fun i h => h, fun i h x => x, fun i v ⟨c, u, h1, h2⟩ => ⟨.str ⟨#[c]⟩, ?_, ⟨u, h2⟩⟩, fun b hb => .inl (by simpa using hb)⟩
    simp only [signsV, List.getElem?_map]
    rw [show z.cps.toList[i]? = some c by simpa using h1]
    rfl
/-- its items in new pairs, counted from k -/
def Iten (G : Hp → Prop) (xs : List V) (k : Int) : It :=
  ⟨fun i H => i < xs.length ∧ G H, fun i H v H' => ∃ T y, v = .ref T ∧ H T = none ∧ H' = upd H T (.tup [.int (k + (i : Nat)), y]) ∧ xs[i]? = some y, fun i H => i = xs.length ∧ G H⟩
theorem turn_en {P : Program} {w : World} {K : PySem.W.Frag} {elts : List Expr} {kk : Nat} {tpos : Pos} (q : Kd) (xs : List V) (k : Int) (e it : Addr) :
    Turn P w K (.Tuple elts kk tpos) (Iten (q.G xs) xs k) [e, it] e (fun i h => (∃ old, IsEnum h e it (k + (i : Nat)) old) ∧ q.St it i h ∧ e ≠ it) where
  mem := by simp
  obj := fun i h ⟨⟨old, he⟩, hs, _⟩ b hb => by
    rcases (show b = e ∨ b = it by simpa using hb) with z | z
    · rw [z]; exact ⟨_, he, fun v q => nomatch q⟩
    · rw [z]; exact Kd.obj hs
  keep := fun i h h' ⟨⟨old, he⟩, hs, hne⟩ kp => ⟨⟨old, kp e (by simp) _ he⟩, Kd.keep hs (kp it (by simp)), hne⟩
  item := by
    intro X hP hw hK hc i pins s σ H E I hf ⟨⟨old, he⟩, hs, hne⟩ ⟨hlt, hG⟩
    subst hP hw hK
    obtain ⟨fp, PP, St', DD, d1, d2, d3, d4⟩ := q.draws I (I.ok.hd hc) hG (hf it (by simp)).1
    have hef : e ∉ fp := fun z => by
      rcases d4 e z with y | ⟨o, y⟩
      · exact hne y
      · rw [(hf e (by simp)).1] at y; cases y
    have hel : e < s.heap.objs.size := Heap.lt_size he
    have hil : it < s.heap.objs.size := by obtain ⟨o, y, _⟩ := Kd.obj hs; exact Heap.lt_size y
    refine wpAny_pyNext_enum_itemC DD he (d1 i hs) hlt hne hef fun x h1 tk hx ho hst hT hsz hk => ?_
    obtain ⟨y, hy, ry⟩ := d3 i x hx
    refine ⟨_, rfl, wpAny_letOwnedTupleGo_enum (s := { s with heap := h1, toks := tk + 1 }) ho fun h2 he2 sb => ?_⟩
    have hT2 : h2.get? s.heap.objs.size = some { cls := .type "tuple", data := .seq #[.int (k + (i : Nat)) tk, x] } := (sb.2 _ (Nat.ne_of_gt hel)).trans hT
    have new : ObjOk X.prog X.w (upd H s.heap.objs.size (.tup [.int (k + (i : Nat)), y])) h2 s.heap.objs.size (.tup [.int (k + (i : Nat)), y]) :=
      ⟨by show 2 ≤ sizeLine; decide, [_, _], .cons ⟨_, rfl⟩ (.cons ry .nil), ⟨_, hT2, rfl, _, rfl⟩⟩
    refine ⟨.ref s.heap.objs.size, _, I.turnedNew (t' := tk + 1) (ch := [e, it]) (fun b o hb z => ?_) hf (Nat.le_refl _) new, rfl, ⟨_, y, rfl, I.hok.fresh (Nat.le_refl _), rfl, hy⟩, ⟨⟨x, ?_⟩, Kd.keep (d2 _ _ hst) fun o z => (sb.2 it (Ne.symm hne)).trans z, hne⟩, fun b hb => ?_⟩
    · have n1 : b ≠ e := fun z => hb (by simp [z])
      have n2 : b ≠ it := fun z => hb (by simp [z])
      exact (sb.2 b n1).trans (hk b o n1 n2 z)
    · rw [show k + ((i + 1 : Nat) : Int) = k + (i : Nat) + 1 by omega]
      exact he2
    · have hb' : b < s.heap.objs.size := by
        rcases (show b = e ∨ b = it by simpa using hb) with z | z <;> rw [z] <;> assumption
      rw [upd_ne (Nat.ne_of_lt hb')]
      exact (hf b hb).1
  done := by
    intro X hP hw hK hc i pins s σ H E I hf ⟨⟨old, he⟩, hs, hne⟩ ⟨hl, hG⟩
    subst hP hw hK hl
    obtain ⟨fp, PP, St', DD, d1, d2, d3, d4⟩ := q.draws I (I.ok.hd hc) hG (hf it (by simp)).1
    obtain ⟨f0, f1, f2, f3, f4, f5⟩ := hf it (by simp)
    exact wpAny_pyNext_enum_endD DD he (d1 _ hs) fun h' eb => ⟨rfl, I.turned (t' := s.toks) (fun b o hb z => eb b o hb z) f0 f1 f3 f4 f5⟩
  self := fun A i s Q E ⟨⟨_, he⟩, _⟩ h => wpAny_pyIter_enum he h
def iEn (te : TE) : TI := fun σ H R => te σ H fun x H1 => (∃ a xs, x = .ref a ∧ H1 a = some (.lst xs) ∧ R (Iten (fun H => H a = some (.lst xs)) xs 0) H1) ∨ (∃ a xs, x = .ref a ∧ H1 a = some (.tup xs) ∧ R (Iten (fun H => H a = some (.tup xs)) xs 0) H1) ∨ ∃ z, x = .str z ∧ R (Iten (fun _ => signsV z = signsV z) (signsV z) 0) H1
section
variable {X : Cx}
theorem en_begin {elts : List Expr} {kk : Nat} {tpos : Pos} (q : Kd) {pins : List (Addr × Obj)} {σ : L2.St} {H : Hp} {s : Shared} {R : It → Hp → Prop} {xs : List V} {k : Int} {h' : Heap} {tk : Nat} (I : Inv X pins σ H s) (he : IsEnum h' (s.heap.objs.size + 1) s.heap.objs.size k .none) (hs : q.St s.heap.objs.size 0 h') (hk : ∀ b u, s.heap.get? b = some u → h'.get? b = some u) (r : R (Iten (q.G xs) xs k) H) :
    wpAny (model X.prog X.w) X.A (pyIter (.ref (s.heap.objs.size + 1))) (PIE X pins σ (.Tuple elts kk tpos) R) X.xe { s with heap := h', toks := tk } := by
  have I2 : Inv X pins σ H { s with heap := h', toks := tk } := I.kept (t' := tk) hk
  refine wpAny_pyIter_enum (s := { s with heap := h', toks := tk }) he ⟨_, [s.heap.objs.size + 1, s.heap.objs.size], _, _, H, rfl, I2, turn_en q xs k (s.heap.objs.size + 1) s.heap.objs.size, ⟨⟨.none, by simpa using he⟩, hs, Nat.succ_ne_self _⟩, fun b hb => ?_, r⟩
  have hle : s.heap.objs.size ≤ b := by
    rcases (show b = s.heap.objs.size + 1 ∨ b = s.heap.objs.size by simpa using hb) with z | z
    · rw [z]; exact Nat.le_succ _
    · rw [z]; exact Nat.le_refl _
  exact I.fpOk hle (I.hok.fresh hle)
theorem pi_en {e : Expr} {te : TE} {p pos tpos : Pos} {elts : List Expr} {kk : Nat} (hg : Gl X "enumerate") (hm : X.mg "enumerate" = none) (he : PE X e te) (hs : starEach [e] X.env = [(false, eval e X.env)] := by rfl) :
    PI X (.Tuple elts kk tpos) (.Call (.Name "enumerate" p) [e] [] pos) (iEn te) := by
  refine ⟨fun pins s σ H R I h => ?_⟩
  have hA := (pa_cons he pa_nil hs).run pos pins s σ H (fun vs H1 => ∃ x, vs = [x] ∧ ((∃ a xs, x = .ref a ∧ H1 a = some (.lst xs) ∧ R (Iten (fun H => H a = some (.lst xs)) xs 0) H1) ∨ (∃ a xs, x = .ref a ∧ H1 a = some (.tup xs) ∧ R (Iten (fun H => H a = some (.tup xs)) xs 0) H1) ∨ ∃ z, x = .str z ∧ R (Iten (fun _ => signsV z = signsV z) (signsV z) 0) H1)) I
  refine Call_ (ld_blt I hg hm boot_enumerate (PyProof.Rows.callWith_type1 (thn (hA ?_) ?_) hs rfl))
  · show te σ H fun x H1 => ∃ x', [x] = [x'] ∧ _
    have mono : ∀ {t : TE} {Q Q' : VK}, (∀ v H', Q v H' → Q' v H') → True := fun _ => trivial
    refine cast ?_ h
    show te σ H _ = te σ H _
    congr 1
    funext x H1
    exact propext ⟨fun z => ⟨x, rfl, z⟩, fun ⟨x', e1, z⟩ => by cases e1; exact z⟩
  · rintro us s1 ⟨vs, H1, I1, r1, x, e1, q1⟩
    subst e1
    cases r1 with
    | cons r rr =>
      cases rr
      rcases q1 with ⟨a, xs, rfl, hq, q1⟩ | ⟨a, xs, rfl, hq, q1⟩ | ⟨z, rfl, q1⟩
      · cases r
        obtain ⟨its, rv, p', hz⟩ := I1.list (sqL_of hq)
        exact enum_call1 (begins_list a its.toArray) p'.isList fun h' h1 h2 h3 => en_begin (.lst a) (tk := s1.toks) I1 h1 ⟨_, h2, rfl, rfl⟩ h3 q1
      · cases r
        obtain ⟨its, rv, p', hz⟩ := I1.tuple (sqT_of hq)
        exact enum_call1 (begins_tuple a its.toArray) p' fun h' h1 h2 h3 => en_begin (.tup a) (tk := s1.toks) I1 h1 ⟨_, h2, rfl, rfl⟩ h3 q1
      · obtain ⟨t, rfl⟩ := r
        exact enum_call1 (begins_text z t) trivial fun h' h1 h2 h3 => en_begin (.str z t) (xs := signsV z) (tk := s1.toks) I1 h1 ⟨_, h2, rfl, rfl⟩ h3 q1
def pairsD (k : Int) (ds : List D) : List D := (List.range ds.length).map fun i => PyData.tuple [.int (k + (i : Nat)), ds.getD i .none]
theorem pairsD_get (k : Int) (ds : List D) (i : Nat) : (pairsD k ds)[i]? = ds[i]?.map fun d => PyData.tuple [.int (k + (i : Nat)), d] := by
  unfold pairsD
  rw [List.getElem?_map]
  by_cases h : i < ds.length
  · rw [List.getElem?_range h, List.getElem?_eq_getElem h]
    simp [List.getD_eq_getElem?_getD, List.getElem?_eq_getElem h]
  · rw [List.getElem?_eq_none (by simpa using h), List.getElem?_eq_none (by omega)]
    rfl
theorem pairsD_len (k : Int) (ds : List D) : (pairsD k ds).length = ds.length := by simp [pairsD]
theorem it_en {W : Wd} {H : Hp} {xs : List V} {ds : List D} {G : Hp → Prop} {k : Int} (r : RepAll W.mu H xs ds) (hG : ∀ H', W.Lt H H' → G H') : ItOk W (Iten G xs k) H (pairsD k ds) where
  go := fun i H' hi l => by
    rw [pairsD_len] at hi
    exact ⟨by rw [r.length]; exact hi, hG H' l⟩
  stop := fun H' l => by
    rw [pairsD_len]
    exact ⟨r.length.symm, hG H' l⟩
  yld := fun i H' v H'' l hi y => by
    obtain ⟨T, y, rfl, hT, rfl, hy⟩ := y
    obtain ⟨d, e1, e2⟩ := r.getV hy
    refine ⟨.tuple [.int (k + (i : Nat)), d], by rw [pairsD_get, e1]; rfl, Ex.new hT, fun mu' m1 m2 => ?_⟩
    have nT : ¬ mu' T := fun z => by
      obtain ⟨o, e⟩ := m2 T z
      rw [hT] at e; cases e
    have e3 : Rep mu' H' y d := e2.stays (stays_hide' l m1)
    exact .tup nT upd_same (.cons (.int _) (.cons (e3.stays fun a u n z => ⟨n, Ex.new hT a u z⟩) .nil))
def wEn (m : WE) : WI := fun ρ Q => m ρ fun d => ∃ ds, itemsOf d = some ds ∧ Q (pairsD 0 ds)
theorem repAll_signs {mu : Addr → Prop} {H : Hp} (z : Str) : RepAll mu H (signsV z) (signsD z) := by
  unfold signsV signsD
  induction z.cps.toList with
  | nil => exact .nil
  | cons c r ih => exact .cons (.str _) ih
theorem i_en {e : Expr} {te : TE} {m : WE} {p pos tpos : Pos} {elts : List Expr} {kk : Nat} (hg : Gl X "enumerate") (hm : X.mg "enumerate" = none) (he : ME X e te m) (hs : starEach [e] X.env = [(false, eval e X.env)] := by rfl) :
    MI X (.Tuple elts kk tpos) (.Call (.Name "enumerate" p) [e] [] pos) (iEn te) (wEn m) := ⟨pi_en hg hm he.pe hs, fun W ρ σ H Q k re g Qh q => he.se W ρ σ H _ k re g _ fun d v H1 ⟨ds, e, g1⟩ l1 k1 r1 => by
  cases r1 with
  | lst h1 h2 h3 => cases e; exact .inl ⟨_, _, rfl, h2, q _ _ H1 g1 l1 k1 (it_en h3 fun H' l => l _ _ h1 h2)⟩
  | tup h1 h2 h3 => cases e; exact .inr (.inl ⟨_, _, rfl, h2, q _ _ H1 g1 l1 k1 (it_en h3 fun H' l => l _ _ h1 h2)⟩)
  | str z => cases e; exact .inr (.inr ⟨_, rfl, q _ _ H1 g1 l1 k1 (it_en (repAll_signs z) fun _ _ => rfl)⟩)
  | _ => cases e⟩
end
end Mo

namespace Mo
open PySem PySem.Spec PyProof.Rows L2

/-! ### the operators by name -/
section
variable {X : Cx}
def rAdd (K : PySem.W.Frag) : R2 := fun x y H Q => rI0 (fun i j => .int (i + j)) x y H Q ∨ rAddS x y H Q ∨ rCatA K x y H Q ∨ rCat x y H Q
def fAdd : F2 := fun d e Q => fI0 (fun i j => .int (i + j)) d e Q ∨ fAddS d e Q ∨ fAddT d e Q ∨ fAddL d e Q
theorem o_add : OpR X (binaryOp .Add) (rAdd X.K) := OpR.or op_add (OpR.or op_add_str (OpR.or op_catA op_cat))
theorem sr_add {K : PySem.W.Frag} : SR (rAdd K) fAdd := SR.or (sr_I0 fun _ _ _ _ => .int _) (SR.or sr_addS (SR.or sr_addT sr_addL))
def fSub : F2 := fI0 fun i j => .int (i - j)
theorem sr_sub : SR (rI0 fun i j => .int (i - j)) fSub := sr_I0 fun _ _ _ _ => .int _
def fMul : F2 := fI CMul fun i j => .int (i * j)
theorem sr_mul : SR (rI CMul fun i j => .int (i * j)) fMul := sr_I fun _ _ _ _ => .int _
def fMod : F2 := fI (fun _ j => 0 < j) fun i j => .int (i % j)
theorem sr_mod : SR (rI (fun _ j => 0 < j) fun i j => .int (i % j)) fMod := sr_I fun _ _ _ _ => .int _
def fDiv : F2 := fI CDiv fun i j => .int (i / j)
theorem sr_div : SR (rI CDiv fun i j => .int (i / j)) fDiv := sr_I fun _ _ _ _ => .int _
def fLt : F2 := fI0 fun i j => .bool (decide (i < j))
def fLe : F2 := fI0 fun i j => .bool (decide (i ≤ j))
def fGt : F2 := fI0 fun i j => .bool (decide (j < i))
def fGe : F2 := fI0 fun i j => .bool (decide (j ≤ i))
theorem sr_lt : SR (rI0 fun i j => .bl (decide (i < j))) fLt := sr_I0 fun _ _ _ _ => .bl _
theorem sr_le : SR (rI0 fun i j => .bl (decide (i ≤ j))) fLe := sr_I0 fun _ _ _ _ => .bl _
theorem sr_gt : SR (rI0 fun i j => .bl (decide (j < i))) fGt := sr_I0 fun _ _ _ _ => .bl _
theorem sr_ge : SR (rI0 fun i j => .bl (decide (j ≤ i))) fGe := sr_I0 fun _ _ _ _ => .bl _
/-- int(x) -/
def rInt1 : RCl := fun xs H Q => (∃ i, xs = [.int i] ∧ Q (.int i) H) ∨ ∃ k, xs = [.bl k] ∧ Q (.int (if k then 1 else 0)) H
def fInt1 : FC := fun ds Q => (∃ i, ds = [.int i] ∧ Q (.int i)) ∨ ∃ k, ds = [.bool k] ∧ Q (.int (if k then 1 else 0))
theorem cr_int1 : CallR X (.type "int") rInt1 := call_int1
theorem sr_int1 : SRc rInt1 fInt1 := fun W H vs ds Q k r g Qh q => by
  rcases g with ⟨i, rfl, g⟩ | ⟨b, rfl, g⟩
  · cases r with
    | cons r t => cases t; cases r; exact .inl ⟨i, rfl, q _ _ H g (.refl H) k (.int _)⟩
  · cases r with
    | cons r t => cases t; cases r; exact .inr ⟨b, rfl, q _ _ H g (.refl H) k (.int _)⟩

/-! ### isinstance of a built-in class -/
def tyName : D → String
  | .none => "NoneType"
  | .bool _ => "bool"
  | .int _ => "int"
  | .str _ => "str"
  | .list _ => "list"
  | .tuple _ => "tuple"
  | .dict _ => "dict"
def isT (T : String) (d : D) : Bool := (kitB (tyName d) T).getD false
theorem tyX_of {K : PySem.W.Frag} {mu : Addr → Prop} {H : Hp} {v : V} {d : D} (r : Rep mu H v d) : TyX K H v (.type (tyName d)) := by
  cases r with
  | non => exact .base .non
  | bl b => exact .base (.bl b)
  | int i => exact .base (.int i)
  | str x => exact .base (.str x)
  | lst _ h _ => exact .base (.lst h)
  | tup _ h _ => exact .base (.tup h)
def wIsi (T : String) (m : WE) : WE := fun ρ Q => m ρ fun d => Q (.bool (isT T d))
theorem m_isi {e : Expr} {t : TE} {m : WE} {x : Str} {T : String} {p p2 pos : Pos} (hk : ∀ d, (kitB (tyName d) T).isSome = true) (hg : Gl X "isinstance") (hm : X.mg "isinstance" = none) (h : ME X e t m) (hg2 : Gl X x) (hm2 : X.mg x = none) (hv2 : bootBuiltins x = some (.type T)) (hn2 : x ≠ "__name__" := by decide) (hd2 : (x == ("__debug__" : Str)) = false := by decide)
    (hs : starEach [e, .Name x p2] X.env = [(false, eval e X.env), (false, eval (.Name x p2) X.env)] := by rfl) (hs2 : starEach [.Name x p2] X.env = [(false, eval (.Name x p2) X.env)] := by rfl) (hpl : (backTo pos (starEach [.Name x p2] X.env)).any (·.1) = false := by rfl) :
    ME X (.Call (.Name "isinstance" p) [e, .Name x p2] [] pos) (tCB (rIsi X.K) (tCons t (tCons (tC (.ty T)) tNil))) (wIsi T m) :=
  ⟨pe_callB call_isi hg hm PyProof.Rows.boot_isinstance (pa_cons h.pe (pa_cons (pe_bltn hg2 hm2 hv2 rfl hn2 hd2) pa_nil hs2) hs) (by decide) (by decide) hs hpl, fun W ρ σ H Q k re g Qh q => h.se W ρ σ H _ k re g _ fun d v H1 g1 l1 k1 r1 => by
    refine ⟨v, .ty T, .type (tyName d), .type T, isT T d, rfl, .ty T, tyX_of r1, kit_ty ?_, q _ _ H1 g1 l1 k1 (.bl _)⟩
    unfold isT
    have := hk d
    cases e : kitB (tyName d) T with
    | none => rw [e] at this; cases this
    | some b => rfl⟩
def tyNames : List String := ["NoneType", "bool", "int", "str", "list", "tuple", "dict"]
theorem tyName_mem (d : D) : tyName d ∈ tyNames := by cases d <;> simp [tyName, tyNames]
theorem kit_all {T : String} (h : (tyNames.all fun n => (kitB n T).isSome) = true) : ∀ d, (kitB (tyName d) T).isSome = true := fun d => List.all_eq_true.mp h _ (tyName_mem d)
theorem kit_tuple : ∀ d, (kitB (tyName d) "tuple").isSome = true := kit_all (by decide +kernel)
theorem kit_list : ∀ d, (kitB (tyName d) "list").isSome = true := kit_all (by decide +kernel)
theorem kit_bool : ∀ d, (kitB (tyName d) "bool").isSome = true := kit_all (by decide +kernel)
theorem kit_int : ∀ d, (kitB (tyName d) "int").isSome = true := kit_all (by decide +kernel)
theorem kit_str : ∀ d, (kitB (tyName d) "str").isSome = true := kit_all (by decide +kernel)
def isTup : D → Bool | .tuple _ => true | _ => false
def isLst : D → Bool | .list _ => true | _ => false
def isBl : D → Bool | .bool _ => true | _ => false
def isInt : D → Bool | .int _ => true | .bool _ => true | _ => false
def isStr : D → Bool | .str _ => true | _ => false
theorem isT_all {T : String} (l : List String) (h : (tyNames.all fun n => (kitB n T).getD false == l.contains n) = true) (d : D) : isT T d = l.contains (tyName d) := eq_of_beq (List.all_eq_true.mp h _ (tyName_mem d))
theorem isT_tuple : isT "tuple" = isTup := by funext d; rw [isT_all ["tuple"] (by decide +kernel)]; cases d <;> simp [tyName, isTup]
theorem isT_list : isT "list" = isLst := by funext d; rw [isT_all ["list"] (by decide +kernel)]; cases d <;> simp [tyName, isLst]
theorem isT_bool : isT "bool" = isBl := by funext d; rw [isT_all ["bool"] (by decide +kernel)]; cases d <;> simp [tyName, isBl]
theorem isT_int : isT "int" = isInt := by funext d; rw [isT_all ["bool", "int"] (by decide +kernel)]; cases d <;> simp [tyName, isInt]
theorem isT_str : isT "str" = isStr := by funext d; rw [isT_all ["str"] (by decide +kernel)]; cases d <;> simp [tyName, isStr]

/-! ### sorted(set(t)), t a tuple of ints -/
def rSetI (K : PySem.W.Frag) (w : World) : RCl := fun vs H Q => ∃ (p : Addr) (ns : List Int), vs = [.ref p] ∧ SqT K H p (ns.map V.int) ∧ ns.length < 64 ∧ ∀ a c, H a = none → c ≤ ns.length → Q (.ref a) (upd H a (SetO w a (fun j => decide (j ∈ ns)) c))
theorem cr_setI (hc : X.calm = true) : CallR X (.type "set") (rSetI X.K X.w) := by
  intro pins s σ H vs us Q I r h
  obtain ⟨p, ns, rfl, hq, hl, q⟩ := h
  rw [Vals.ref1 r]
  obtain ⟨its, rv, pt, hz⟩ := I.tuple hq
  refine call_set_tupI ns (I.ok.hd hc) pt (ints_of_vals rv) (by unfold scanBound; omega) fun h' tk c R hcn kp => ?_
  exact ⟨.ref s.heap.objs.size, upd H s.heap.objs.size (SetO X.w s.heap.objs.size (fun j => decide (j ∈ ns)) c), I.laid (t' := tk) kp (Nat.le_refl _) (setO_new R), rfl, q _ c (I.hok.fresh (Nat.le_refl _)) hcn⟩
def wSortSet (m : WE) : WE := fun ρ Q => m ρ fun d => ∃ ns : List Int, d = .tuple (ns.map PyData.int) ∧ ns.length < 64 ∧ ∀ ms : List Int, ms.Pairwise (· < ·) → (∀ k, k ∈ ms ↔ k ∈ ns) → Q (.list (ms.map PyData.int))
theorem m_sortset {e : Expr} {t : TE} {m : WE} {p p2 pos pos2 : Pos} (hc : X.calm = true) (hg : Gl X "sorted") (hm : X.mg "sorted" = none) (hg2 : Gl X "set") (hm2 : X.mg "set" = none) (h : ME X e t m)
    (hs : starEach [e] X.env = [(false, eval e X.env)] := by rfl) (hs2 : starEach [.Call (.Name "set" p2) [e] [] pos2] X.env = [(false, eval (.Call (.Name "set" p2) [e] [] pos2) X.env)] := by rfl) :
    ME X (.Call (.Name "sorted" p) [.Call (.Name "set" p2) [e] [] pos2] [] pos) (tCB (rSortedSet X.w) (tCons (tCB (rSetI X.K X.w) (tCons t tNil)) tNil)) (wSortSet m) :=
  ⟨pe_callB (cr_sortedSet hc) hg hm PyProof.Rows.boot_sorted (pa_cons (pe_callTy (cr_setI hc) hg2 hm2 PyProof.Rows.boot_set (pa_cons h.pe pa_nil hs) (by decide) (by decide) hs rfl) pa_nil hs2) (by decide) (by decide) hs2 rfl, fun W ρ σ H Q k re g Qh q => h.se W ρ σ H _ k re g _ fun d v H1 ⟨ns, e, hl, g1⟩ l1 k1 r1 => by
    subst e
    cases r1 with
    | @tup a xs _ h1 h2 h3 =>
      have e2 := ints_rep h3
      subst e2
      refine ⟨a, ns, rfl, sqT_of h2, hl, fun b c hb hcn => ⟨b, _, c, rfl, upd_same, by omega, fun ms p2 s1 s2 s3 hp => ?_⟩⟩
      have k2 := ok_new (o := SetO X.w b (fun j => decide (j ∈ ns)) c) k1 hb
      have l2 : W.Le H1 (upd (upd H1 b (SetO X.w b (fun j => decide (j ∈ ns)) c)) p2 (.lst (ms.map V.int))) := (Ex.le (Ex.new hb)).trans (Ex.le (Ex.new hp))
      exact q _ _ _ (g1 ms s1 fun j => by rw [s2 j]; simp) (l1.trans l2) (ok_new k2 hp) (rep_lst k2 hp (.ints ms))⟩
end

/-! ### the same with the written part by its name (a comprehension's block has the same one) -/
section
variable {X : Cx} {K : PySem.W.Frag} {w : World} {a b : Expr} {ta tb : TE} {ma mb : WE} {pos : Pos}
theorem k_add (h : X.K = K) : OpR X (binaryOp .Add) (rAdd K) := by subst h; exact o_add
theorem k_in (h : X.K = K) : OpR X (compareOp .In) (rIn K false) := by subst h; exact op_in_seq
theorem k_notIn (h : X.K = K) : OpR X (compareOp .NotIn) (rIn K true) := by subst h; exact op_notIn_seq
theorem k_eq (h : X.K = K) (hu : X.A.units + 64 < cLine) : OpR X (compareOp .Eq) (rEqD K) := by subst h; exact op_eqD hu
theorem k_ne (h : X.K = K) (hu : X.A.units + 64 < cLine) : OpR X (compareOp .NotEq) (rNeD K) := by subst h; exact op_neD hu
theorem k_ix (h : X.K = K) (ha : ME X a ta ma) (hb : ME X b tb mb) (hs : PlainIx b) : ME X (.Subscript a b pos) (tOp (rIx K) ta tb) (wOp fIx ma mb) := by subst h; exact m_ix ha hb hs
theorem k_len (h : X.K = K) : CallR X (.builtin "len") (rLen K) := by subst h; exact cr_len
theorem k_tupOf (h : X.K = K) : CallR X (.type "tuple") (rTupOf K) := by subst h; exact cr_tupOf
theorem k_lstOf (h : X.K = K) : CallR X (.type "list") (rLstOf K) := by subst h; exact cr_lstOf
theorem k_all (h : X.K = K) (hc : X.calm = true) : CallR X (.builtin "all") (rAll K) := by subst h; exact cr_all hc
theorem k_any (h : X.K = K) (hc : X.calm = true) : CallR X (.builtin "any") (rAny K) := by subst h; exact cr_any hc
theorem k_isi {e : Expr} {t : TE} {m : WE} {x : Str} {T : String} {p p2 : Pos} (h : X.K = K) (hk : ∀ d, (kitB (tyName d) T).isSome = true) (hg : Gl X "isinstance") (hm : X.mg "isinstance" = none) (he : ME X e t m) (hg2 : Gl X x) (hm2 : X.mg x = none) (hv2 : bootBuiltins x = some (.type T)) (hn2 : x ≠ "__name__" := by decide) (hd2 : (x == ("__debug__" : Str)) = false := by decide)
    (hs : starEach [e, .Name x p2] X.env = [(false, eval e X.env), (false, eval (.Name x p2) X.env)] := by rfl) (hs2 : starEach [.Name x p2] X.env = [(false, eval (.Name x p2) X.env)] := by rfl) (hpl : (backTo pos (starEach [.Name x p2] X.env)).any (·.1) = false := by rfl) :
    ME X (.Call (.Name "isinstance" p) [e, .Name x p2] [] pos) (tCB (rIsi K) (tCons t (tCons (tC (.ty T)) tNil))) (wIsi T m) := by subst h; exact m_isi hk hg hm he hg2 hm2 hv2 hn2 hd2 hs hs2 hpl
theorem k_sortset {e : Expr} {t : TE} {m : WE} {p p2 pos2 : Pos} (h : X.K = K) (h2 : X.w = w) (hc : X.calm = true) (hg : Gl X "sorted") (hm : X.mg "sorted" = none) (hg2 : Gl X "set") (hm2 : X.mg "set" = none) (he : ME X e t m)
    (hs : starEach [e] X.env = [(false, eval e X.env)] := by rfl) (hs2 : starEach [.Call (.Name "set" p2) [e] [] pos2] X.env = [(false, eval (.Call (.Name "set" p2) [e] [] pos2) X.env)] := by rfl) :
    ME X (.Call (.Name "sorted" p) [.Call (.Name "set" p2) [e] [] pos2] [] pos) (tCB (rSortedSet w) (tCons (tCB (rSetI K w) (tCons t tNil)) tNil)) (wSortSet m) := by subst h h2; exact m_sortset hc hg hm hg2 hm2 he hs hs2
theorem k_seq {tg l : Expr} {tl : TE} {m : WE} (h : X.K = K) (hl : ME X l tl m) : MI X tg l (iSeq K tl) (wSeqI m) := by subst h; exact i_seq hl
theorem k_tup {es : List Expr} {k : Nat} {gs : TGs} {m : WGs} {sl : List Nat} {n : Nat} (h : X.K = K) (hc : X.calm = true) (hm : MGs X es gs m sl) (hn : (assignEach es X.env).length = n := by rfl) (hst : (assignEach es X.env).findIdx? (·.1) = none := by rfl) :
    MG X (.Tuple es k pos) (gTup K n gs) (gT n m) sl := by subst h; exact g_tup1 hc hm hn hst
theorem s_app (i : Nat) {x : Str} {e : Expr} {t : TE} {m : WE} {p apos cpos : Pos} (h : X.K = K) (he : ME X e t m) (hN : X.N[i]? = some x := by rfl) (hv : Vis X.env.scope x := by first | exact Or.inl rfl | exact Or.inr (Or.inl rfl) | exact Or.inr (Or.inr rfl)) (hd : (x == ("__debug__" : Str)) = false := by decide) (hcd : (x == ("__classdict__" : Str)) = false := by decide)
    (hb : attributeBase (.Name x p) "append" X.env (eval (.Name x p) X.env) = eval (.Name x p) X.env := by rfl)
    (hf : ((backTo cpos (starEach [e] X.env)).all (fun x => !x.1) && (backToKw cpos (keywordEach [] X.env)).all (fun x => x.1.isSome) && decide ([e].length + ([] : List Keyword).length + (if ([] : List Keyword).isEmpty then 0 else 1) < 30)) = true := by rfl)
    (hl : (apos.endLine == cpos.line) = true := by rfl) (hs : starEach [e] X.env = [(false, eval e X.env)] := by rfl) (hp : (backTo cpos (starEach [] X.env)).any (·.1) = false := by rfl)
    (hw : swapsWith (.Call (.Attribute (.Name x p) "append" apos) [e] [] cpos) none pos.line X.env = pure false := by rfl) :
    MS X (.Expr (.Call (.Attribute (.Name x p) "append" apos) [e] [] cpos) pos) (tDrop (tBM K "list" rAppend (tVar i) (tCons t tNil))) (sApp i m) := by
  subst h
  exact ⟨ps_expr (pe_bm PySem.F.plainAttrs_list PySem.F.slot_list_append PySem.F.type_list_append mt_append (pe_var hN hv hd hcd) (pa_cons he.pe pa_nil hs) hb hf hl hs hp) hw, ss_app he.se⟩
end

/-! ### a promise that is never asked; defs as they stand in the text -/
section
variable {P : Program} {w : World} {K : PySem.W.Frag} {mg : Str → Option Value} {base : Heap}
theorem fn_never {CX : CXT} {k : Nat} {f : Addr} {fd : FuncData} {ps : List Str} : FnOk P w K mg base CX k f fd ps (spD fun _ _ => False) :=
  ⟨fun vs H Q E ⟨_, _, _, _, _, h, _⟩ => h.elim, fun A outer s H args us vs Q E _ _ _ _ ⟨_, _, _, _, _, h, _⟩ => h.elim⟩
structure Def (K : PySem.W.Frag) (mg : Str → Option Value) (x : Str) (ps : List Str) (st : Stmt) (a : Addr) (fd : FuncData) : Prop where
  g : mg x = some (.ref a)
  F : Fun K x x st a fd
  b : Binds K fd ps []
end

/-! ### the box -/
/-- what is asked of a draw: its bound is above 0; any number below may come -/
def wDraw : List S → (D → Prop) → Prop := fun ss Q => ∃ many : Int, ss = [.box, .d (.int many)] ∧ 0 < many ∧ ∀ r : Int, 0 ≤ r → r < many → Q (.int r)
def bxW (b dl : Addr) (dg : List Int) : Wd := ⟨fun a => a = b, some b, dl, dg⟩
/-- the law: the box is made, the rest runs with it -/
def spBox (K : PySem.W.Frag) : Sp := fun vs H Q _ => ∃ (a : Addr) (ns : List Int), vs = [.ref a, .int 0, .int 63] ∧ SqL K H a (ns.map V.int) ∧ ns.length ≤ 63 ∧ ∀ (H' : Hp) (b dl : Addr) (dg : List Int), (bxW b dl dg).Ok H' → Q (.ref b) H'
def spLaw (K : PySem.W.Frag) : Sp := fun vs H Q _ => ∃ (a : Addr) (ns : List Int), vs = [.ref a] ∧ SqL K H a (ns.map V.int) ∧ ns.length ≤ 63 ∧ ∀ H', Q (.bl true) H'
/-- what is asked of the law's rest: slot 0 the script (not known), slot 1 the box -/
def lawAsk (n : Nat) (m : WS) : Prop := m { nx := fun _ => False, rt := fun d => d = .bool true } (.un :: .box :: List.replicate n .un)
theorem law_rest {n : Nat} {t : TS} {m : WS} (h : SS t m) (ask : lawAsk n m) {b dl : Addr} {dg : List Int} {H : Hp} {v0 : Option V} (k : (bxW b dl dg).Ok H) {D : Ends} (hrt : ∀ H', D.rt (.bl true) H') : t D (v0 :: some (.ref b) :: List.replicate n none) H := by
  refine h (bxW b dl dg) H (fun _ => none) _ H _ _ ⟨(bxW b dl dg).mu, k, fun a h => h, fun a h => .inl h, .refl H, fun a o h => (nomatch h), k, ⟨by simp, fun i s hi => ?_⟩, fun i xs p hi => ?_, fun i j xs ys p hi => ?_⟩ ask D ⟨fun _ _ _ z => z.elim, fun d v H1 e _ _ r => ?_, fun _ _ _ z => z.elim, fun _ _ _ z => z.elim⟩
  · cases i with
    | zero => cases hi; trivial
    | succ i =>
      cases i with
      | zero => cases hi; exact ⟨b, rfl, rfl⟩
      | succ i =>
        simp only [List.getElem?_cons_succ, List.getElem?_replicate] at hi
        split at hi
        · cases hi; trivial
        · cases hi
  · cases i with
    | zero => cases hi
    | succ i =>
      cases i with
      | zero => cases hi
      | succ i =>
        simp only [List.getElem?_cons_succ, List.getElem?_replicate] at hi
        split at hi
        · cases hi
        · cases hi
  · cases i with
    | zero => cases hi
    | succ i =>
      cases i with
      | zero => cases hi
      | succ i =>
        simp only [List.getElem?_cons_succ, List.getElem?_replicate] at hi
        split at hi
        · cases hi
        · cases hi
  · subst e
    cases r
    exact hrt H1
end Mo

namespace Mo
open PySem PySem.Spec PyProof.Rows L2

/-! ### comprehensions whose turns are told -/
theorem wGo_det {mg : WG} {mt : WT} {me : WE} {ρ : Rho} (c : D → Bool) (e : D → D) : ∀ {ds acc : List D} {Q : List D → Prop},
    (∀ d ∈ ds, ∀ K : Option D → Prop, K (if c d = true then some (e d) else none) → mg d ρ fun ρ1 => mt ρ1 fun b => if b = true then me ρ1 (fun y => K (some y)) else K none) → Q (acc ++ (ds.filter c).map e) → wGo mg mt me ρ ds acc Q
  | [], acc, Q, _, q => by simpa [wGo] using q
  | d :: ds, acc, Q, h, q => by
    have h1 := h d (List.mem_cons_self ..) (fun o => match o with | some y => wGo mg mt me ρ ds (acc ++ [y]) Q | none => wGo mg mt me ρ ds acc Q)
    have h2 : ∀ d' ∈ ds, ∀ K : Option D → Prop, K (if c d' = true then some (e d') else none) → mg d' ρ fun ρ1 => mt ρ1 fun b => if b = true then me ρ1 (fun y => K (some y)) else K none := fun d' hd => h d' (List.mem_cons_of_mem _ hd)
    refine h1 ?_
    cases hc : c d with
    | true =>
      simp only [if_true]
      refine wGo_det c e h2 ?_
      simpa [List.filter_cons, hc] using q
    | false =>
      simp only [Bool.false_eq_true, if_false]
      refine wGo_det c e h2 ?_
      simpa [List.filter_cons, hc] using q
/-- each turn gives something of which P holds -/
theorem wGo_each {mg : WG} {mt : WT} {me : WE} {ρ : Rho} (P : D → Prop) : ∀ {ds acc : List D} {Q : List D → Prop},
    (∀ d ∈ ds, ∀ K : Option D → Prop, (∀ y, P y → K (some y)) → mg d ρ fun ρ1 => mt ρ1 fun b => if b = true then me ρ1 (fun y => K (some y)) else K none) → (∀ out : List D, out.length = ds.length → (∀ y ∈ out, P y) → Q (acc ++ out)) → wGo mg mt me ρ ds acc Q
  | [], acc, Q, _, q => by simpa [wGo] using q [] rfl (by simp)
  | d :: ds, acc, Q, h, q => by
    refine h d (List.mem_cons_self ..) (fun o => match o with | some y => wGo mg mt me ρ ds (acc ++ [y]) Q | none => wGo mg mt me ρ ds acc Q) (fun y hy => ?_)
    refine wGo_each P (fun d' hd => h d' (List.mem_cons_of_mem _ hd)) (fun out hl ho => ?_)
    have := q (y :: out) (by simp [hl]) (by simpa using ⟨hy, ho⟩)
    simpa using this
/-- each turn may give e d or nothing -/
theorem wGo_sub {mg : WG} {mt : WT} {me : WE} {ρ : Rho} (e : D → D) : ∀ {ds acc : List D} {Q : List D → Prop},
    (∀ d ∈ ds, ∀ K : Option D → Prop, K (some (e d)) → K none → mg d ρ fun ρ1 => mt ρ1 fun b => if b = true then me ρ1 (fun y => K (some y)) else K none) → (∀ sub : List D, sub.Sublist ds → Q (acc ++ sub.map e)) → wGo mg mt me ρ ds acc Q
  | [], acc, Q, _, q => by simpa [wGo] using q [] (.refl _)
  | d :: ds, acc, Q, h, q => by
    refine h d (List.mem_cons_self ..) (fun o => match o with | some y => wGo mg mt me ρ ds (acc ++ [y]) Q | none => wGo mg mt me ρ ds acc Q) ?_ ?_
    · refine wGo_sub e (fun d' hd => h d' (List.mem_cons_of_mem _ hd)) (fun sub hs => ?_)
      have := q (d :: sub) (hs.cons_cons d)
      simpa using this
    · exact wGo_sub e (fun d' hd => h d' (List.mem_cons_of_mem _ hd)) (fun sub hs => q sub (hs.cons d))

/-! ### sets and tables as data -/
def nD (k : Nat) : D := .int (k : Int)
def setD (s : List Nat) : D := .tuple (s.map nD)
def rowsD (rows : List (List Nat)) : D := .tuple (rows.map setD)
def tblD (many : Nat) (rows : List (List Nat)) : D := .tuple [.str "table", nD many, rowsD rows]
theorem atI_ok {ds : List D} {j : Nat} {z : D} (h : ds[j]? = some z) : atI ds (j : Int) = some z := atI_nat h
theorem fIx_t {ds : List D} {j : Nat} {z : D} {Q : D → Prop} (h : ds[j]? = some z) (q : Q z) : fIx (.tuple ds) (.int (j : Int)) Q := ⟨_, rfl, .inl ⟨ds, z, .inl rfl, atI_nat h, q⟩⟩
theorem fIx_l {ds : List D} {j : Nat} {z : D} {Q : D → Prop} (h : ds[j]? = some z) (q : Q z) : fIx (.list ds) (.int (j : Int)) Q := ⟨_, rfl, .inl ⟨ds, z, .inr rfl, atI_nat h, q⟩⟩
theorem eqv_n (a b : Nat) : PyData.eqv (nD a) (nD b) = decide (a = b) := by
  show ((a : Int) == (b : Int)) = decide (a = b)
  by_cases h : a = b
  · subst h; simp
  · rw [decide_eq_false h]
    exact beq_eq_false_iff_ne.mpr fun e => h (by omega)
theorem inD_set (k : Nat) (s : List Nat) : inD (nD k) (s.map nD) = decide (k ∈ s) := by
  unfold inD
  rw [List.any_map]
  induction s with
  | nil => rfl
  | cons x r ih =>
    rw [List.any_cons, ih]
    show (PyData.eqv (nD x) (nD k) || decide (k ∈ r)) = _
    rw [eqv_n]
    by_cases h : x = k
    · subst h; simp
    · rw [decide_eq_false h, Bool.false_or]
      have e : (k ∈ x :: r) ↔ k ∈ r := ⟨fun z => (List.mem_cons.mp z).elim (fun y => absurd y.symm h) id, List.mem_cons_of_mem _⟩
      simp only [e]
theorem flat_n (s : List Nat) : (s.map nD).all flatD = true := by
  rw [List.all_map]
  exact List.all_eq_true.mpr fun _ _ => rfl
theorem fIn_s {k : Nat} {s : List Nat} {Q : D → Prop} (q : Q (.bool (decide (k ∈ s)))) : fIn false (nD k) (setD s) Q := ⟨_, .inl rfl, rfl, flat_n s, by simpa [inD_set] using q⟩
theorem fNotIn_s {k : Nat} {s : List Nat} {Q : D → Prop} (q : Q (.bool (!decide (k ∈ s)))) : fIn true (nD k) (setD s) Q := ⟨_, .inl rfl, rfl, flat_n s, by simpa [inD_set] using q⟩
theorem rngD_n (n : Nat) : rngD 0 n = (List.range n).map nD := by
  unfold rngD nD
  apply List.map_congr_left
  intro i _
  rw [Int.zero_add]
theorem shaped_i (i : Int) : SeqAt.shaped (.int i) = true := rfl
theorem fEq_n {a b : Nat} {Q : D → Prop} (q : Q (.bool (decide (a = b)))) : fEq (nD a) (nD b) Q := ⟨rfl, rfl, by rw [eqv_n]; exact q⟩
theorem fNe_n {a b : Nat} {Q : D → Prop} (q : Q (.bool (!decide (a = b)))) : fNe (nD a) (nD b) Q := ⟨rfl, rfl, by rw [eqv_n]; exact q⟩
theorem filter_n (c : D → Bool) (e : D → D) (l : List Nat) : ((l.map nD).filter c).map e = (l.filter fun k => c (nD k)).map fun k => e (nD k) := by
  rw [List.filter_map, List.map_map]
  rfl

/-! ### loops told by what holds between two turns -/
theorem sGo_at {mg : WG} {mb : WS} {De : DW} (I : Nat → Rho → Prop) : ∀ {ds : List D} {ρ : Rho} (n : Nat),
    (∀ i d ρ, ds[i]? = some d → I (n + i) ρ → ∀ N : Rho → Prop, (∀ ρ', I (n + i + 1) ρ' → N ρ') → mg d ρ fun ρ1 => mb { nx := N, rt := De.rt, ct := N, bk := De.nx } ρ1) → (∀ ρ, I (n + ds.length) ρ → De.nx ρ) → I n ρ → sGo mg mb De ds ρ
  | [], ρ, n, _, h, i => h ρ i
  | d :: ds, ρ, n, h, e, i => by
    refine h 0 d ρ rfl i _ fun ρ' i' => sGo_at I (n + 1) (fun j d' ρ2 hj i2 N hN => ?_) (fun ρ2 i2 => e ρ2 ?_) i'
    · have q := h (j + 1) d' ρ2 (by simpa using hj)
      rw [show n + (j + 1) = n + 1 + j by omega] at q
      exact q i2 N hN
    · rw [show n + (d :: ds).length = n + 1 + ds.length by simp; omega]
      exact i2
theorem sGo_inv {mg : WG} {mb : WS} {De : DW} {ds : List D} {ρ : Rho} (I : Rho → Prop) (h : ∀ d ∈ ds, ∀ ρ, I ρ → ∀ N : Rho → Prop, (∀ ρ', I ρ' → N ρ') → mg d ρ fun ρ1 => mb { nx := N, rt := De.rt, ct := N, bk := De.nx } ρ1) (e : ∀ ρ, I ρ → De.nx ρ) (i : I ρ) : sGo mg mb De ds ρ :=
  sGo_at (fun _ => I) 0 (fun j d ρ2 hj i2 N hN => h d (List.mem_of_getElem? hj) ρ2 i2 N hN) e i

/-! ### plain facts -/
theorem dOnly1 (a : D) : dOnly [.d a] := fun s h xs => by simp at h; rw [h]; exact S.noConfusion
theorem dOnly2 (a b : D) : dOnly [.d a, .d b] := fun s h xs => by simp at h; rcases h with h | h <;> rw [h] <;> exact S.noConfusion
theorem dOnly3 (a b c : D) : dOnly [.d a, .d b, .d c] := fun s h xs => by simp at h; rcases h with h | h | h <;> rw [h] <;> exact S.noConfusion
theorem dOnlyB1 (a : D) : dOnly [.box, .d a] := fun s h xs => by simp at h; rcases h with h | h <;> rw [h] <;> exact S.noConfusion
theorem dOnlyB2 (a b : D) : dOnly [.box, .d a, .d b] := fun s h xs => by simp at h; rcases h with h | h | h <;> rw [h] <;> exact S.noConfusion
theorem sz {n : Nat} (h : n ≤ 100) : n ≤ sizeLine := Nat.le_trans h (by decide)
theorem rb {n : Nat} (h : n ≤ 100) : -(2 ^ 62) ≤ (n : Int) ∧ (n : Int) < 2 ^ 62 := by omega
theorem ite_k {b : Bool} {K : Option D → Prop} {y : D} {P : Prop} (k : K (if b = true then some y else none)) (h : K (some y) → P) : if b = true then P else K none := by
  cases b with
  | true => exact h k
  | false => exact k
theorem rng_n (n : Nat) : rngD 0 ((n : Int).toNat) = (List.range n).map nD := by rw [Int.toNat_natCast, rngD_n]
theorem len_rng (n : Nat) : ((List.range n).map nD).length = n := by rw [List.length_map, List.length_range]
theorem len_n (s : List Nat) : (s.map nD).length = s.length := List.length_map ..
theorem filter_sub {α : Type} [DecidableEq α] : ∀ {s l : List α}, s.Sublist l → l.Nodup → (l.filter fun x => decide (x ∈ s)) = s := by
  intro s l h
  induction h with
  | slnil => intro _; rfl
  | @cons l1 l2 a hs ih =>
    intro nd
    have n1 := (List.nodup_cons.mp nd).1
    rw [List.filter_cons, if_neg]
    · exact ih (List.nodup_cons.mp nd).2
    · intro z
      exact n1 (hs.subset (of_decide_eq_true z))
  | @cons_cons l1 l2 a hs ih =>
    intro nd
    have n1 := (List.nodup_cons.mp nd).1
    rw [List.filter_cons, if_pos (by simp)]
    have : (l2.filter fun x => decide (x ∈ a :: l1)) = l2.filter fun x => decide (x ∈ l1) := List.filter_congr fun x hx => by
      have : x ≠ a := fun e => n1 (by rw [← e]; exact hx)
      simp [this]
    rw [this, ih (List.nodup_cons.mp nd).2]

/-! ### what is plain and not too deep -/
def okD : Nat → D → Prop
  | _, .none => True
  | _, .bool _ => True
  | _, .int _ => True
  | _, .str s => SeqAt.shaped (.str s) = true
  | n + 1, .tuple ds => ds.length ≤ 100 ∧ ∀ x ∈ ds, okD n x
  | _, _ => False
theorem ok_n (n k : Nat) : okD n (nD k) := by cases n <;> trivial
theorem ok_set (n : Nat) {s : List Nat} (h : s.length ≤ 100) : okD (n + 1) (setD s) := ⟨by rw [len_n]; exact h, fun x hx => by
  obtain ⟨k, _, rfl⟩ := List.mem_map.mp hx
  exact ok_n n k⟩
theorem ok_rows (n : Nat) {rows : List (List Nat)} (h : rows.length ≤ 100) (h2 : ∀ r ∈ rows, r.length ≤ 100) : okD (n + 2) (rowsD rows) := ⟨by rw [List.length_map]; exact h, fun x hx => by
  obtain ⟨r, hr, rfl⟩ := List.mem_map.mp hx
  exact ok_set n (h2 r hr)⟩
theorem ok_tbl (n : Nat) {many : Nat} {rows : List (List Nat)} (h : rows.length ≤ 100) (h2 : ∀ r ∈ rows, r.length ≤ 100) : okD (n + 3) (tblD many rows) := ⟨by show 3 ≤ 100; omega, fun x hx => by
  rcases List.mem_cons.mp hx with rfl | hx
  · show SeqAt.shaped _ = true
    decide +kernel
  · rcases List.mem_cons.mp hx with rfl | hx
    · exact ok_n _ many
    · rcases List.mem_cons.mp hx with rfl | hx
      · exact ok_rows n h h2
      · cases hx⟩
theorem rising_eq : ∀ {a b : List Nat}, a.Pairwise (· < ·) → b.Pairwise (· < ·) → (∀ k, k ∈ a ↔ k ∈ b) → a = b
  | [], [], _, _, _ => rfl
  | [], y :: b, _, _, h => by have := (h y).mpr (List.mem_cons_self ..); cases this
  | x :: a, [], _, _, h => by have := (h x).mp (List.mem_cons_self ..); cases this
  | x :: a, y :: b, pa, pb, h => by
    obtain ⟨pa1, pa2⟩ := List.pairwise_cons.mp pa
    obtain ⟨pb1, pb2⟩ := List.pairwise_cons.mp pb
    have exy : x = y := by
      rcases List.mem_cons.mp ((h x).mp (List.mem_cons_self ..)) with e | e
      · exact e
      · rcases List.mem_cons.mp ((h y).mpr (List.mem_cons_self ..)) with e2 | e2
        · exact e2.symm
        · have := pb1 x e; have := pa1 y e2; omega
    subst exy
    rw [rising_eq pa2 pb2 fun k => ?_]
    constructor
    · intro hk
      rcases List.mem_cons.mp ((h k).mp (List.mem_cons_of_mem _ hk)) with e | e
      · have := pa1 k hk; omega
      · exact e
    · intro hk
      rcases List.mem_cons.mp ((h k).mpr (List.mem_cons_of_mem _ hk)) with e | e
      · have := pb1 k hk; omega
      · exact e
theorem sub_lt {s : List Nat} {n : Nat} (h : s.Sublist (List.range n)) : ∀ k ∈ s, k < n := fun k hk => List.mem_range.mp (h.subset hk)
theorem sub_len {s : List Nat} {n : Nat} (h : s.Sublist (List.range n)) : s.length ≤ n := by
  have := h.length_le
  rwa [List.length_range] at this

theorem rising_len : ∀ {l : List Nat} {n : Nat}, l.Pairwise (· < ·) → (∀ k ∈ l, k < n) → l.length ≤ n := by
  intro l n p h
  have hs : l.Sublist (List.range n) := by
    have e : (List.range n).filter (fun k => decide (k ∈ l)) = l := by
      have h1 : ((List.range n).filter fun k => decide (k ∈ l)).Pairwise (· < ·) := List.Pairwise.filter _ List.pairwise_lt_range
      have h2 : ∀ k, k ∈ (List.range n).filter (fun k => decide (k ∈ l)) ↔ k ∈ l := fun k => by
        rw [List.mem_filter, List.mem_range]
        constructor
        · rintro ⟨_, h⟩; exact of_decide_eq_true h
        · intro hk; exact ⟨h k hk, decide_eq_true hk⟩
      exact rising_eq h1 p h2
    rw [← e]
    exact List.filter_sublist
  exact sub_len hs
theorem fNe_b {a b : Bool} {Q : D → Prop} (q : Q (.bool (!(a == b)))) : fNe (.bool a) (.bool b) Q := ⟨rfl, rfl, q⟩
end Mo

namespace Mo
open PySem PySem.Spec PyProof.Rows L2

/-! ### methods of texts -/
section
variable {X : Cx} {K : PySem.W.Frag} {o e : Expr} {to te : TE} {a b : WE} {pos apos : Pos}
abbrev RM := V → List V → Hp → VK → Prop
def SRm (r : RM) (f : F2) : Prop := SR (fun x y H Q => r x [y] H Q) f
def wM1 (f : F2) (a b : WE) : WE := fun ρ Q => a ρ fun d => (∃ s, d = .str s) ∧ b ρ fun e => f d e Q
theorem se_m1 {r : RM} {f : F2} (h : SRm r f) (ha : SE to a) (hb : SE te b) : SE (tM1 r to te) (wM1 f a b) := fun W ρ σ H Q k re g Qh q =>
  ha W ρ σ H _ k re g _ fun d x H1 ⟨⟨s, e⟩, g1⟩ l1 k1 r1 => by
    subst e
    cases r1
    exact ⟨⟨s, rfl⟩, hb W ρ σ H1 _ k1 (re.le k l1) g1 _ fun e y H2 g2 l2 k2 r2 => h W H2 _ y _ e Q k2 (.str s) r2 g2 Qh fun z v H3 qz l3 k3 r3 => q z v H3 qz ((l1.trans l2).trans l3) k3 r3⟩
def rSplit : RM := fun x xs H Q => ∃ a b, x = .str a ∧ xs = [.str b] ∧ (b.length == 0) = false ∧ a.length + 2 ≤ sizeLine ∧ rNewStrs (Txt.split a b) H Q
def fSplit : F2 := fun d e Q => ∃ a b, d = .str a ∧ e = .str b ∧ (b.length == 0) = false ∧ a.length + 2 ≤ sizeLine ∧ Q (.list ((Txt.split a b).map PyData.str))
theorem repAll_strs {mu : Addr → Prop} {H : Hp} : ∀ l : List Str, RepAll mu H (l.map V.str) (l.map PyData.str)
  | [] => .nil
  | x :: l => .cons (.str x) (repAll_strs l)
theorem strs_rep {mu : Addr → Prop} {H : Hp} : ∀ {bs : List Str} {vs : List V}, RepAll mu H vs (bs.map PyData.str) → vs = bs.map V.str
  | [], _, h => by cases h; rfl
  | b :: bs, _, h => by
    cases h with
    | cons r t => cases r; rw [strs_rep t]; rfl
theorem sr_split : SRm rSplit fSplit := fun W H x y d e Q k rx ry f Qh q => by
  obtain ⟨a, b, rfl, rfl, h1, h2, f⟩ := f
  cases rx
  cases ry
  exact ⟨a, b, rfl, rfl, h1, h2, fun p hp => q _ _ _ f (Ex.le (Ex.new hp)) (ok_new k hp) (rep_lst k hp (repAll_strs _))⟩
theorem m_split (ho : ME X o to a) (he : ME X e te b) (hs : starEach [e] X.env = [(false, eval e X.env)] := by rfl) (hb : attributeBase o "split" X.env (eval o X.env) = eval o X.env := by rfl) (hl : (apos.endLine == pos.line) = true := by rfl) :
    ME X (.Call (.Attribute o "split" apos) [e] [] pos) (tM1 rSplit to te) (wM1 fSplit a b) := ⟨pe_split ho.pe he.pe hs hb hl, se_m1 sr_split ho.se he.se⟩
def rJoin (K : PySem.W.Frag) : RM := fun x xs H Q => ∃ a p, ∃ ys : List Str, x = .str a ∧ xs = [.ref p] ∧ (SqL K H p (ys.map V.str) ∨ SqT K H p (ys.map V.str)) ∧ (ys.map (·.length)).sum + ys.length * a.length ≤ 16777216 ∧ Q (.str (Txt.join a ys)) H
def fJoin : F2 := fun d e Q => ∃ (a : Str) (ys : List Str), d = .str a ∧ (e = .list (ys.map PyData.str) ∨ e = .tuple (ys.map PyData.str)) ∧ (ys.map (·.length)).sum + ys.length * a.length ≤ 16777216 ∧ Q (.str (Txt.join a ys))
theorem sr_join : SRm (rJoin K) fJoin := fun W H x y d e Q k rx ry f Qh q => by
  obtain ⟨a, ys, rfl, he, hz, f⟩ := f
  cases rx
  rcases he with rfl | rfl
  · cases ry with
    | @lst p xs _ h1 h2 h3 =>
      have e := strs_rep h3
      subst e
      exact ⟨a, p, ys, rfl, rfl, .inl (sqL_of h2), hz, q _ _ H f (.refl H) k (.str _)⟩
  · cases ry with
    | @tup p xs _ h1 h2 h3 =>
      have e := strs_rep h3
      subst e
      exact ⟨a, p, ys, rfl, rfl, .inr (sqT_of h2), hz, q _ _ H f (.refl H) k (.str _)⟩
theorem k_join (h : X.K = K) (ho : ME X o to a) (he : ME X e te b) (hs : starEach [e] X.env = [(false, eval e X.env)] := by rfl) (hb : attributeBase o "join" X.env (eval o X.env) = eval o X.env := by rfl) (hl : (apos.endLine == pos.line) = true := by rfl) :
    ME X (.Call (.Attribute o "join" apos) [e] [] pos) (tM1 (rJoin K) to te) (wM1 fJoin a b) := by subst h; exact ⟨pe_join ho.pe he.pe hs hb hl, se_m1 sr_join ho.se he.se⟩
def rStarts : RM := fun x xs H Q => ∃ a b, x = .str a ∧ xs = [.str b] ∧ Q (.bl (Txt.startswith a b)) H
def fStarts : F2 := fun d e Q => ∃ a b, d = .str a ∧ e = .str b ∧ Q (.bool (Txt.startswith a b))
theorem sr_starts : SRm rStarts fStarts := fun W H x y d e Q k rx ry f Qh q => by
  obtain ⟨a, b, rfl, rfl, f⟩ := f
  cases rx
  cases ry
  exact ⟨a, b, rfl, rfl, q _ _ H f (.refl H) k (.bl _)⟩
theorem m_starts (ho : ME X o to a) (he : ME X e te b) (hs : starEach [e] X.env = [(false, eval e X.env)] := by rfl) (hb : attributeBase o "startswith" X.env (eval o X.env) = eval o X.env := by rfl) (hl : (apos.endLine == pos.line) = true := by rfl) :
    ME X (.Call (.Attribute o "startswith" apos) [e] [] pos) (tM1 rStarts to te) (wM1 fStarts a b) := ⟨pe_m1 F.slot_str_startswith F.type_str_startswith mt_startswith ho.pe he.pe hs hb hl, se_m1 sr_starts ho.se he.se⟩
def rEnds : RM := fun x xs H Q => ∃ a b, x = .str a ∧ xs = [.str b] ∧ Q (.bl (Txt.endswith a b)) H
def fEnds : F2 := fun d e Q => ∃ a b, d = .str a ∧ e = .str b ∧ Q (.bool (Txt.endswith a b))
theorem sr_ends : SRm rEnds fEnds := fun W H x y d e Q k rx ry f Qh q => by
  obtain ⟨a, b, rfl, rfl, f⟩ := f
  cases rx
  cases ry
  exact ⟨a, b, rfl, rfl, q _ _ H f (.refl H) k (.bl _)⟩
theorem m_ends (ho : ME X o to a) (he : ME X e te b) (hs : starEach [e] X.env = [(false, eval e X.env)] := by rfl) (hb : attributeBase o "endswith" X.env (eval o X.env) = eval o X.env := by rfl) (hl : (apos.endLine == pos.line) = true := by rfl) :
    ME X (.Call (.Attribute o "endswith" apos) [e] [] pos) (tM1 rEnds to te) (wM1 fEnds a b) := ⟨pe_m1 F.slot_str_endswith F.type_str_endswith mt_endswith ho.pe he.pe hs hb hl, se_m1 sr_ends ho.se he.se⟩

/-! ### str(n), int(text), f-strings -/
def rStrI : RCl := fun xs H Q => (∃ i, xs = [.int i] ∧ i.natAbs.log2 < 1920 ∧ Q (.str (toString i)) H)
def fStrI : FC := fun ds Q => ∃ i : Int, ds = [.int i] ∧ i.natAbs.log2 < 1920 ∧ Q (.str (Str.ofString (toString i)))
theorem cr_strI : CallR X (.type "str") rStrI := call_str_int
theorem sr_strI : SRc rStrI fStrI := fun W H vs ds Q k r g Qh q => by
  obtain ⟨i, rfl, h, g⟩ := g
  cases r with
  | cons r t => cases t; cases r; exact ⟨i, rfl, h, q _ _ H g (.refl H) k (.str _)⟩
def rIntA : RCl := fun xs H Q => rInt1 xs H Q ∨ ∃ a n, xs = [.str a] ∧ PySem.intText? a = some n ∧ a.length ≤ 640 ∧ Q (.int n) H
def fIntA : FC := fun ds Q => fInt1 ds Q ∨ ∃ a n, ds = [.str a] ∧ PySem.intText? a = some n ∧ a.length ≤ 640 ∧ Q (.int n)
theorem cr_intA : CallR X (.type "int") rIntA := CallR.or call_int1 call_int_str
theorem sr_intA : SRc rIntA fIntA := SRc.or sr_int1 fun W H vs ds Q k r g Qh q => by
  obtain ⟨a, n, rfl, h1, h2, g⟩ := g
  cases r with
  | cons r t => cases t; cases r; exact ⟨a, n, rfl, h1, h2, q _ _ H g (.refl H) k (.int _)⟩
def wFmt (m : WE) : WE := fun ρ Q => m ρ fun d => (∃ y : Str, d = .str y ∧ y.length ≤ sizeLine ∧ Q (.str y)) ∨ ∃ i : Int, d = .int i ∧ i.natAbs.log2 < 1920 ∧ Q (.str (Str.ofString (toString i)))
theorem m_fmt (he : ME X e te a) : ME X (.FormattedValue e (-1) none pos) (tFmt te) (wFmt a) := ⟨pe_fmt he.pe, fun W ρ σ H Q k re g Qh q => he.se W ρ σ H _ k re g _ fun d v H1 g1 l1 k1 r1 => by
  rcases g1 with ⟨y, rfl, hy, g1⟩ | ⟨i, rfl, hi, g1⟩
  · cases r1
    exact .inl ⟨y, rfl, hy, q _ _ H1 g1 l1 k1 (.str _)⟩
  · cases r1
    exact .inr ⟨i, rfl, hi, q _ _ H1 g1 l1 k1 (.str _)⟩⟩
def wJs : List WE → Str → Rho → (Str → Prop) → Prop
  | [], acc, _, Q => Q acc
  | m :: ms, acc, ρ, Q => m ρ fun d => ∃ y : Str, d = .str y ∧ (acc ++ y).length ≤ sizeLine ∧ wJs ms (acc ++ y) ρ Q
inductive MJ (X : Cx) : List Expr → List TE → List WE → Prop where
  | nil : MJ X [] [] []
  | cons {e : Expr} {t : TE} {m : WE} {es : List Expr} {ts : List TE} {ms : List WE} (h : ME X e t m) (r : MJ X es ts ms) : MJ X (e :: es) (t :: ts) (m :: ms)
theorem MJ.pj {es : List Expr} {ts : List TE} {ms : List WE} (h : MJ X es ts ms) : PJ X es ts := by
  induction h with
  | nil => exact .nil
  | cons h _ ih => exact .cons h.pe ih
theorem MJ.se {es : List Expr} {ts : List TE} {ms : List WE} (h : MJ X es ts ms) : ∀ (acc : Str) (W : Wd) (ρ : Rho) (σ : L2.St) (H : Hp) (Q : Str → Prop), W.Ok H → RepE W H σ ρ → wJs ms acc ρ Q → ∀ Qh : Str → Hp → Prop, (∀ s H', Q s → W.Le H H' → W.Ok H' → Qh s H') → tJs ts acc σ H Qh := by
  induction h with
  | nil => intro acc W ρ σ H Q k re g Qh q; exact q acc H g (.refl H) k
  | cons h _ ih =>
    intro acc W ρ σ H Q k re g Qh q
    exact h.se W ρ σ H _ k re g _ fun d v H1 ⟨y, e, hz, g1⟩ l1 k1 r1 => by
      subst e
      cases r1
      exact ⟨y, rfl, hz, ih (acc ++ y) W ρ σ H1 Q k1 (re.le k l1) g1 Qh fun s H2 q2 l2 k2 => q s H2 q2 (l1.trans l2) k2⟩
def wJoined (ms : List WE) : WE := fun ρ Q => wJs ms Str.empty ρ fun s => Q (.str s)
def tJoined (ts : List TE) : TE := fun σ H Q => tJs ts Str.empty σ H fun out H1 => Q (.str out) H1
theorem m_joined {v1 v2 : Expr} {rest : List Expr} {ts : List TE} {ms : List WE} (h : MJ X (v1 :: v2 :: rest) ts ms) : ME X (.JoinedStr (v1 :: v2 :: rest) pos) (tJoined ts) (wJoined ms) :=
  ⟨pe_joined h.pj, fun W ρ σ H Q k re g Qh q => h.se Str.empty W ρ σ H _ k re g _ fun s H1 g1 l1 k1 => q _ _ H1 g1 l1 k1 (.str s)⟩
theorem m_joined1 (he : ME X e te a) : ME X (.JoinedStr [e] pos) te a := ⟨pe_joined1 he.pe, he.se⟩

/-! ### in, not in, of anything; slices -/
def rInS (neg : Bool) : R2 := fun x y H Q => ∃ i j, x = .str i ∧ y = .str j ∧ Q (.bl (if neg then !(!(Builtin.Str.occurrences j i 0 j.length 1).isEmpty) else !(Builtin.Str.occurrences j i 0 j.length 1).isEmpty)) H
def fInS (neg : Bool) : F2 := fun d e Q => ∃ i j, d = .str i ∧ e = .str j ∧ Q (.bool (if neg then !(!(Builtin.Str.occurrences j i 0 j.length 1).isEmpty) else !(Builtin.Str.occurrences j i 0 j.length 1).isEmpty))
theorem sr_inS {neg : Bool} : SR (rInS neg) (fInS neg) := fun W H x y d e Q k rx ry f Qh q => by
  obtain ⟨i, j, rfl, rfl, f⟩ := f
  cases rx
  cases ry
  exact ⟨i, j, rfl, rfl, q _ _ H f (.refl H) k (.bl _)⟩
def rSign (neg : Bool) : R2 := fun x y H Q => ∃ (c : Nat) (z : Str), x = .str ⟨#[c]⟩ ∧ y = .str z ∧ Q (.bl (if neg then !decide (c ∈ z.cps.toList) else decide (c ∈ z.cps.toList))) H
def fSign (neg : Bool) : F2 := fun d e Q => ∃ (c : Nat) (z : Str), d = .str ⟨#[c]⟩ ∧ e = .str z ∧ Q (.bool (if neg then !decide (c ∈ z.cps.toList) else decide (c ∈ z.cps.toList)))
theorem sr_sign {neg : Bool} : SR (rSign neg) (fSign neg) := fun W H x y d e Q k rx ry f Qh q => by
  obtain ⟨i, j, rfl, rfl, f⟩ := f
  cases rx
  cases ry
  exact ⟨i, j, rfl, rfl, q _ _ H f (.refl H) k (.bl _)⟩
def rInA (K : PySem.W.Frag) (neg : Bool) : R2 := fun x y H Q => rIn K neg x y H Q ∨ rSign neg x y H Q
def fInA (neg : Bool) : F2 := fun d e Q => fIn neg d e Q ∨ fSign neg d e Q
theorem sr_inA {neg : Bool} : SR (rInA K neg) (fInA neg) := SR.or sr_in sr_sign
theorem k_inA (h : X.K = K) : OpR X (compareOp .In) (rInA K false) := by subst h; exact OpR.or op_in_seq op_in_sign
theorem k_notInA (h : X.K = K) : OpR X (compareOp .NotIn) (rInA K true) := by subst h; exact OpR.or op_notIn_seq op_notIn_sign
abbrev WO := Rho → (Option Int → Prop) → Prop
def SO (t : TO) (m : WO) : Prop := ∀ (W : Wd) (ρ : Rho) (σ : L2.St) (H : Hp) (Q : Option Int → Prop), W.Ok H → RepE W H σ ρ → m ρ Q → ∀ Qh : Option Int → Hp → Prop, (∀ o H', Q o → W.Le H H' → W.Ok H' → Qh o H') → t σ H Qh
structure MO (X : Cx) (e : Option Expr) (t : TO) (m : WO) : Prop where
  po : PO X e t
  so : SO t m
def wNoPart : WO := fun _ Q => Q none
def wPart (m : WE) : WO := fun ρ Q => m ρ fun d => ∃ i, d = .int i ∧ Q (some i)
theorem o_none : MO X none tNoPart wNoPart := ⟨po_none, fun W ρ σ H Q k re g Qh q => q _ H g (.refl H) k⟩
theorem o_some (he : ME X e te a) : MO X (some e) (tPart te) (wPart a) := ⟨po_some he.pe, fun W ρ σ H Q k re g Qh q => he.se W ρ σ H _ k re g _ fun d v H1 ⟨i, e, g1⟩ l1 k1 r1 => by
  subst e
  cases r1
  exact ⟨i, rfl, q _ H1 g1 l1 k1⟩⟩
def cutD (ds : List D) (lo hi : Option Int) : List D := (ds.drop (HT.sIx ds.length 0 lo)).take (HT.sIx ds.length ds.length hi - HT.sIx ds.length 0 lo)
theorem cut_rep {mu : Addr → Prop} {H : Hp} {vs : List V} {ds : List D} (r : RepAll mu H vs ds) (lo hi : Option Int) : RepAll mu H (cutV vs lo hi) (cutD ds lo hi) := by
  unfold cutV cutD
  rw [r.length]
  exact (r.drop _).take _
def rSl (K : PySem.W.Frag) : V → Option Int → Option Int → Hp → VK → Prop := fun x lo hi H Q => rSlL K x lo hi H Q ∨ rSlA K x lo hi H Q ∨ rSlS x lo hi H Q
def wSl (m : WE) (l h : WO) : WE := fun ρ Q => m ρ fun d => l ρ fun lo => h ρ fun hi => (∃ ds, d = .list ds ∧ Q (.list (cutD ds lo hi))) ∨ (∃ ds, d = .tuple ds ∧ Q (.tuple (cutD ds lo hi))) ∨ ∃ z, d = .str z ∧ z.length ≤ sizeLine ∧ Q (.str (cutS z lo hi))
theorem cut_whole {ds : List D} {lo hi : Option Int} (h1 : HT.sIx ds.length 0 lo = 0) (h2 : HT.sIx ds.length ds.length hi = ds.length) : cutD ds lo hi = ds := by
  unfold cutD
  rw [h1, h2]
  simp
theorem k_sl {lo hi : Option Expr} {tl th : TO} {ml mh : WO} {p2 : Pos} (h : X.K = K) (he : ME X e te a) (hl : MO X lo tl ml) (hh : MO X hi th mh) : ME X (.Subscript e (.Slice lo hi none p2) pos) (tSl (rSl K) te tl th) (wSl a ml mh) := by
  subst h
  refine ⟨pe_slice (SlR.or sl_list (SlR.or sl_tupA sl_str)) he.pe hl.po hh.po, fun W ρ σ H Q k re g Qh q => he.se W ρ σ H _ k re g _ fun d v H1 g1 l1 k1 r1 => ?_⟩
  refine hl.so W ρ σ H1 _ k1 (re.le k l1) g1 _ fun l H2 g2 l2 k2 => hh.so W ρ σ H2 _ k2 (re.le k (l1.trans l2)) g2 _ fun u H3 g3 l3 k3 => ?_
  have r3 := r1.le k1 (l2.trans l3)
  have l4 := (l1.trans l2).trans l3
  rcases g3 with ⟨ds, rfl, g3⟩ | ⟨ds, rfl, g3⟩ | ⟨z, rfl, hz, g3⟩
  · cases r3 with
    | @lst p xs _ h1 h2 h3 => exact .inl ⟨p, xs, rfl, sqL_of h2, fun b hb => q _ _ _ g3 (l4.trans (Ex.le (Ex.new hb))) (ok_new k3 hb) (rep_lst k3 hb (cut_rep h3 l u))⟩
  · cases r3 with
    | @tup p xs _ h1 h2 h3 =>
      refine .inr (.inl ⟨p, xs, rfl, sqT_of h2, fun ⟨e1, e2⟩ => ?_, fun _ b hb => q _ _ _ g3 (l4.trans (Ex.le (Ex.new hb))) (ok_new k3 hb) (rep_tup k3 hb (cut_rep h3 l u))⟩)
      rw [h3.length] at e1 e2
      rw [cut_whole e1 e2] at g3
      exact q _ _ H3 g3 l4 k3 (.tup h1 h2 h3)
  · cases r3
    exact .inr (.inr ⟨z, rfl, hz, q _ _ H3 g3 l4 k3 (.str _)⟩)
/-- name = [..] : a value that is not changed afterwards -/
theorem s_setLc {i : Nat} {y : Str} {py : Pos} {elt tg iter : Expr} {ifs : List Expr} {scope : Scope} {own : List (Str × Nat)} {lpos spos : Pos} {wi : TI} {mi : WI} {g : TG} {mg : WG} {sl : List Nat} {tt : TT} {mt : WT} {te : TE} {me : WE} (hc : X.calm = true) (hN : X.N.Nodup) (hy : X.N[i]? = some y) (hyl : X.env.scope.names.lookup y = some .local)
    (hsw : swapsWith (.ListComp elt [⟨tg, iter, ifs, 0⟩] scope lpos) (some (.Name y py)) spos.line X.env = pure true) (hi : MI X tg iter wi mi) (ok : BlkOk X.N X.env.scope scope own)
    (hg : ∀ (s : Shared) (H : Hp) (C : Addr) (cl : List (Str × Addr)) (fp : List Addr), MG (X.blk s H scope (compEnvC scope cl C X.env) fp) tg g mg sl) (ht : ∀ (s : Shared) (H : Hp) (C : Addr) (cl : List (Str × Addr)) (fp : List Addr), MTs (X.blk s H scope (compEnvC scope cl C X.env) fp) ifs tt mt)
    (he : ∀ (s : Shared) (H : Hp) (C : Addr) (cl : List (Str × Addr)) (fp : List Addr), ME (X.blk s H scope (compEnvC scope cl C X.env) fp) elt te me) (hsl : ∀ i ∈ sl, i ∈ own.map (·.2)) (hs : ∀ x, foldedSetIterable iter X.env x = pure x := by intro _; rfl) :
    MS X (.Assign [.Name y py] (.ListComp elt [⟨tg, iter, ifs, 0⟩] scope lpos) spos) (tAsg (tLc wi g tt te (own.map (·.2))) (gName i)) (sAsg (wLc mi mg mt me (own.map (·.2))) (gN i)) :=
  ⟨ps_setLc hc hN hy hyl hsw hi.pi ok (fun s H C cl fp => (hg s H C cl fp).pg) (fun s H C cl fp => (ht s H C cl fp).pt) (fun s H C cl fp => (he s H C cl fp).pe) hs,
   ss_asg (se_lc hsl hi.si (hg X.s_0 X.H_0 0 [] []).sg (ht X.s_0 X.H_0 0 [] []).st (he X.s_0 X.H_0 0 [] []).se) (sg_name i)⟩
def wNeg (m : WE) : WE := fun ρ Q => m ρ fun d => ∃ i, d = .int i ∧ Q (.int (-i))
theorem m_neg (he : ME X e te a) : ME X (.UnaryOp .USub e pos) (tUn (rU fun i => .int (-i)) te) (wNeg a) := ⟨pe_un un_neg he.pe, fun W ρ σ H Q k re g Qh q => he.se W ρ σ H _ k re g _ fun d v H1 ⟨i, e, g1⟩ l1 k1 r1 => by
  subst e
  cases r1
  exact ⟨i, rfl, q _ _ H1 g1 l1 k1 (.int _)⟩⟩
/-- a statement that is never reached -/
def sNever : WS := fun _ _ => False
theorem s_never {st : Stmt} : MS X st tNever sNever := ⟨ps_never, fun _ _ _ _ _ _ _ _ h => h.elim⟩
end

/-! ### enumerate(.., start=k) -/
def iEnK (k : Int) (te : TE) : TI := fun σ H R => te σ H fun x H1 => (∃ a xs, x = .ref a ∧ H1 a = some (.lst xs) ∧ R (Iten (fun H => H a = some (.lst xs)) xs k) H1) ∨ (∃ a xs, x = .ref a ∧ H1 a = some (.tup xs) ∧ R (Iten (fun H => H a = some (.tup xs)) xs k) H1) ∨ ∃ z, x = .str z ∧ R (Iten (fun _ => signsV z = signsV z) (signsV z) k) H1
def wEnK (k : Int) (m : WE) : WI := fun ρ Q => m ρ fun d => ∃ ds, itemsOf d = some ds ∧ Q (pairsD k ds)

theorem callW_typeK {M : Model} {A : Around} {E : Value → Shared → Prop} {s : Shared} {pos : Pos} {T : String} {args : List (Bool × Sem Value)} {kws : List (Option Str × Sem Value)} {Q : Value → Shared → Prop}
    (h1 : args.any (·.1) = false) (h2 : kws.any (·.1.isNone) = false)
    (h : wpAny M A (evalArgs (.type T) true args kws) (fun a s1 => wpAny M A (call (.type T) ([] ++ a.pos) a.kw) Q E s1) E s) :
    wpAny M A (callWith pos (.type T) [] args kws) Q E s := by
  unfold callWith
  refine wpAny_bind (wpAny_holding (thn h fun a s1 g => wpAny_bind (wpAny_standAt ?_)))
  simp only [h1, h2, Bool.or_false]
  refine wpAny_bind (wpAny_pure ?_)
  exact wpAny_bind (thn g fun r s2 hr => wpAny_bind (wpAny_holding (wpAny_point (wpAny_pure hr))))
section
variable {X : Cx}
theorem pi_enK {e : Expr} {te : TE} {k : Int} {j : Nat} {p p3 kp pos tpos : Pos} {elts : List Expr} {kk : Nat} (h0 : -(2 ^ 63) ≤ k) (h1 : k < 2 ^ 63) (hg : Gl X "enumerate") (hm : X.mg "enumerate" = none) (he : PE X e te) (hs : starEach [e] X.env = [(false, eval e X.env)] := by rfl) :
    PI X (.Tuple elts kk tpos) (.Call (.Name "enumerate" p) [e] [⟨some "start", .Constant (.int k) j p3, kp⟩] pos) (iEnK k te) := by
  refine ⟨fun pins s σ H R I h => ?_⟩
  have hA := (pa_cons he pa_nil hs).run pos pins s σ H (fun vs H1 => ∃ x, vs = [x] ∧ ((∃ a xs, x = .ref a ∧ H1 a = some (.lst xs) ∧ R (Iten (fun H => H a = some (.lst xs)) xs k) H1) ∨ (∃ a xs, x = .ref a ∧ H1 a = some (.tup xs) ∧ R (Iten (fun H => H a = some (.tup xs)) xs k) H1) ∨ ∃ z, x = .str z ∧ R (Iten (fun _ => signsV z = signsV z) (signsV z) k) H1)) I (by
    show te σ H fun x H1 => ∃ x', [x] = [x'] ∧ _
    refine cast ?_ h
    show te σ H _ = te σ H _
    congr 1
    funext x H1
    exact propext ⟨fun z => ⟨x, rfl, z⟩, fun ⟨x', e1, z⟩ => by cases e1; exact z⟩)
  refine wpAny_Call_Name_kw (ld_blt I hg hm boot_enumerate (callW_typeK ?_ (by rfl) ?_))
  · rw [hs]
    rfl
  · rw [hs] at hA ⊢
    refine evalArgs_kwB rfl (thn hA ?_)
    rintro us s1 ⟨vs, H1, I1, r1, x, e1, q1⟩
    subst e1
    refine thn ((pk_cons (nm := some "start") (kpos := kp) (pe_int (X := X) (i := k) (j := j) (pos := p3)) pk_nil).run pos pins s1 σ H1 (fun zs H2 => zs = [.int k] ∧ H2 = H1) I1 ⟨rfl, rfl⟩) ?_
    rintro ws s2 ⟨zs, H2, I2, r2, rfl, rfl⟩
    cases r2 with
    | cons rk rr =>
      cases rr
      obtain ⟨tk, rfl⟩ := rk
      cases r1 with
      | cons r rr =>
        cases rr
        show wpAny _ _ (call (.type "enumerate") [_] [(Str.ofString "start", Value.int k tk)]) _ _ _
        rcases q1 with ⟨a, xs, rfl, hq, q1⟩ | ⟨a, xs, rfl, hq, q1⟩ | ⟨z, rfl, q1⟩
        · cases r
          obtain ⟨its, rv, p', hz⟩ := I2.list (sqL_of hq)
          exact enum_begins_start (begins_list a its.toArray) p'.isList h0 h1 fun h' h1 h2 _ h3 => en_begin (.lst a) (tk := s2.toks) I2 h1 ⟨_, h2, rfl, rfl⟩ h3 q1
        · cases r
          obtain ⟨its, rv, p', hz⟩ := I2.tuple (sqT_of hq)
          exact enum_begins_start (begins_tuple a its.toArray) p' h0 h1 fun h' h1 h2 _ h3 => en_begin (.tup a) (tk := s2.toks) I2 h1 ⟨_, h2, rfl, rfl⟩ h3 q1
        · obtain ⟨t, rfl⟩ := r
          exact enum_begins_start (begins_text z t) trivial h0 h1 fun h' h1 h2 _ h3 => en_begin (.str z t) (xs := signsV z) (tk := s2.toks) I2 h1 ⟨_, h2, rfl, rfl⟩ h3 q1
theorem i_enK {e : Expr} {te : TE} {m : WE} {k : Int} {j : Nat} {p p3 kp pos tpos : Pos} {elts : List Expr} {kk : Nat} (h0 : -(2 ^ 63) ≤ k) (h1 : k < 2 ^ 63) (hg : Gl X "enumerate") (hm : X.mg "enumerate" = none) (he : ME X e te m) (hs : starEach [e] X.env = [(false, eval e X.env)] := by rfl) :
    MI X (.Tuple elts kk tpos) (.Call (.Name "enumerate" p) [e] [⟨some "start", .Constant (.int k) j p3, kp⟩] pos) (iEnK k te) (wEnK k m) := ⟨pi_enK h0 h1 hg hm he.pe hs, fun W ρ σ H Q k0 re g Qh q => he.se W ρ σ H _ k0 re g _ fun d v H1 ⟨ds, e, g1⟩ l1 k1 r1 => by
  cases r1 with
  | lst h1 h2 h3 => cases e; exact .inl ⟨_, _, rfl, h2, q _ _ H1 g1 l1 k1 (it_en h3 fun H' l => l _ _ h1 h2)⟩
  | tup h1 h2 h3 => cases e; exact .inr (.inl ⟨_, _, rfl, h2, q _ _ H1 g1 l1 k1 (it_en h3 fun H' l => l _ _ h1 h2)⟩)
  | str z => cases e; exact .inr (.inr ⟨_, rfl, q _ _ H1 g1 l1 k1 (it_en (repAll_signs z) fun _ _ => rfl)⟩)
  | _ => cases e⟩
end
end Mo

namespace Lw
open PySem PySem.Spec PyProof.Rows L2 Mo
def topS (i : Nat) : Stmt := PySem.Challenge.pw_formalconcepts_k00_tables_are_written.main.body.getD i (.Pass ⟨0, 0, 0, 0⟩)

abbrev s_l_cell : Stmt := topS 16
theorem sc_l_cell : FnScope ["script", "k"] ["script", "k"] (defScope s_l_cell) := ⟨rfl, rfl, rfl, by decide +kernel, rfl, by decide +kernel, by decide +kernel⟩
abbrev s_l_digits : Stmt := topS 17
theorem sc_l_digits : FnScope ["script", "first", "last", "digits", "k", "cell", "turn", "seed"] ["script", "first", "last"] (defScope s_l_digits) := ⟨rfl, rfl, rfl, by decide +kernel, rfl, by decide +kernel, by decide +kernel⟩
abbrev s_l_box : Stmt := topS 18
theorem sc_l_box : FnScope ["script", "first", "last"] ["script", "first", "last"] (defScope s_l_box) := ⟨rfl, rfl, rfl, by decide +kernel, rfl, by decide +kernel, by decide +kernel⟩
abbrev s_l_draw : Stmt := topS 19
theorem sc_l_draw : FnScope ["box", "many", "at"] ["box", "many"] (defScope s_l_draw) := ⟨rfl, rfl, rfl, by decide +kernel, rfl, by decide +kernel, by decide +kernel⟩
abbrev s_l_some : Stmt := topS 20
theorem sc_l_some : FnScope ["box", "many", "sparse", "k"] ["box", "many", "sparse"] (defScope s_l_some) := ⟨rfl, rfl, rfl, by decide +kernel, rfl, by decide +kernel, by decide +kernel⟩
abbrev s_l_table : Stmt := topS 21
theorem sc_l_table : FnScope ["box", "things", "marks", "many", "sparse", "rows", "k"] ["box", "things", "marks"] (defScope s_l_table) := ⟨rfl, rfl, rfl, by decide +kernel, rfl, by decide +kernel, by decide +kernel⟩
abbrev s_l_page : Stmt := topS 23
theorem sc_l_page : FnScope ["table", "text", "row", "mark"] ["table"] (defScope s_l_page) := ⟨rfl, rfl, rfl, by decide +kernel, rfl, by decide +kernel, by decide +kernel⟩
abbrev s_l_same : Stmt := topS 22
theorem sc_l_same : FnScope ["actual", "expected", "k"] ["actual", "expected"] (defScope s_l_same) := ⟨rfl, rfl, rfl, by decide +kernel, rfl, by decide +kernel, by decide +kernel⟩
abbrev s_signs_of : Stmt := topS 10
theorem sc_signs_of : FnScope ["row", "many", "mark"] ["row", "many"] (defScope s_signs_of) := ⟨rfl, rfl, rfl, by decide +kernel, rfl, by decide +kernel, by decide +kernel⟩
abbrev s_write : Stmt := topS 8
theorem sc_write : FnScope ["table", "_", "many", "rows", "lines", "row", "line"] ["table"] (defScope s_write) := ⟨rfl, rfl, rfl, by decide +kernel, rfl, by decide +kernel, by decide +kernel⟩
abbrev s_lines_of : Stmt := topS 11
theorem sc_lines_of : FnScope ["text", "lines"] ["text"] (defScope s_lines_of) := ⟨rfl, rfl, rfl, by decide +kernel, rfl, by decide +kernel, by decide +kernel⟩
abbrev s_is_number : Stmt := topS 13
theorem sc_is_number : FnScope ["word", "sign"] ["word"] (defScope s_is_number) := ⟨rfl, rfl, rfl, by decide +kernel, rfl, by decide +kernel, by decide +kernel⟩
abbrev s_many_told : Stmt := topS 12
theorem sc_many_told : FnScope ["lines", "word"] ["lines"] (defScope s_many_told) := ⟨rfl, rfl, rfl, by decide +kernel, rfl, by decide +kernel, by decide +kernel⟩
abbrev s_row_of : Stmt := topS 14
theorem sc_row_of : FnScope ["line", "number", "many", "sign", "mark"] ["line", "number", "many"] (defScope s_row_of) := ⟨rfl, rfl, rfl, by decide +kernel, rfl, by decide +kernel, by decide +kernel⟩
abbrev s_read : Stmt := topS 9
theorem sc_read : FnScope ["text", "lines", "many", "rows", "number", "line"] ["text"] (defScope s_read) := ⟨rfl, rfl, rfl, by decide +kernel, rfl, by decide +kernel, by decide +kernel⟩
abbrev s_law : Stmt := topS 24
theorem sc_law : FnScope ["script", "box", "turn", "table", "text"] ["script"] (defScope s_law) := ⟨rfl, rfl, rfl, by decide +kernel, rfl, by decide +kernel, by decide +kernel⟩

/-! ### the numbers that the law draws from -/
section
variable {P : Program} {w : World} {K : PySem.W.Frag} {mg : Str → Option Value} {base : Heap}
def spCell (K : PySem.W.Frag) : Sp := fun vs H Q _ => ∃ (a : Addr) (ns : List Int) (k : Int), vs = [.ref a, .int k] ∧ SqL K H a (ns.map V.int) ∧ ns.length ≤ 63 ∧ 0 ≤ k ∧ ∀ c : Int, Q (.int c) H
theorem ok_l_cell {a : Addr} {fd : FuncData} (d : Def K mg "_law_cell" ["script", "k"] s_l_cell a fd) (z_len : mg "len" = none) : FnOk P w K mg base CX0 1 a fd ["script", "k"] (spCell K) := by
  refine d.F.ok sc_l_cell (fun vs H Q E h => ?_) (fun cdv A outer s H vs Q E hr h => ?_)
  · obtain ⟨p, ns, k, rfl, _⟩ := h
    rfl
  · obtain ⟨p, ns, k, rfl, hS, hl, h0, q⟩ := h
    refine ⟨_, pss_cons (ps_if (pt_cmpR op_lt (pv 1) (pe_callB call_len_seq (by rfl) z_len PySem.boot_len (pa_cons (pv 0) pa_nil)) (nomark _)) (pss_one (ps_ret (pe_ix ix_list (pv 0) (pv 1) (fun _ _ => rfl)))) pss_nil) (pss_one (ps_ret pe_int)), ?_⟩
    refine ⟨_, rfl, _, rfl, p, _, rfl, .inl hS, _, _, rfl, rfl, _, rfl, ite2 (fun e => ?_) (fun _ => q 0)⟩
    have hk : k < (ns.length : Int) := by
      have := of_decide_eq_true e
      rwa [List.length_map] at this
    obtain ⟨j, rfl⟩ : ∃ j : Nat, k = (j : Int) := ⟨k.toNat, by omega⟩
    have hj : j < ns.length := by omega
    exact ⟨_, rfl, _, rfl, p, _, _, .int ns[j], rfl, rfl, hS, atI_nat (by rw [List.getElem?_map, List.getElem?_eq_getElem hj]; rfl), q _⟩
def spDigits (K : PySem.W.Frag) : Sp := fun vs H Q _ => ∃ (a : Addr) (ns : List Int), vs = [.ref a, .int 0, .int 63] ∧ SqL K H a (ns.map V.int) ∧ ns.length ≤ 63 ∧ ∀ (H' : Hp) (p : Addr) (ds : List Int), Same H H' → H p = none → H' p = some (.lst (ds.map V.int)) → Q (.ref p) H'
theorem same_put {H0 H : Hp} {p : Addr} {o : HO} (s : Same H0 H) (h : H0 p = none) : Same H0 (upd H p o) := fun b u e => by
  rw [upd_ne (ne_of_none e h)]
  exact s b u e
theorem ok_l_digits {a aC : Addr} {fd fdC : FuncData} (d : Def K mg "_law_digits" ["script", "first", "last"] s_l_digits a fd) (dC : Def K mg "_law_cell" ["script", "k"] s_l_cell aC fdC) (gC : FnOk P w K mg base CX0 1 aC fdC ["script", "k"] (spCell K))
    (z_range : mg "range" = none) (z_int : mg "int" = none) : FnOk P w K mg base CX0 2 a fd ["script", "first", "last"] (spDigits K) := by
  refine d.F.ok sc_l_digits (fun vs H Q E h => ?_) (fun cdv A outer s H vs Q E hr h => ?_)
  · obtain ⟨p, ns, rfl, _⟩ := h
    rfl
  · obtain ⟨p, ns, rfl, hS, hl, q⟩ := h
    have nd := sc_l_digits.nd
    refine ⟨_, pss_cons (ps_set (i := 3) nd rfl (by first | exact .inl rfl | exact .inr rfl) (pe_lst pa_nil))
      (pss_cons (ps_for PassesOwn.never rfl (pi_range2 (by rfl) z_range (pa_cons (pv 1) (pa_cons (pv 2) pa_nil))) (pg_name (i := 4) nd rfl (by first | exact .inl rfl | exact .inr rfl))
        (pss_cons (ps_set (i := 5) nd rfl (by first | exact .inl rfl | exact .inr rfl) (pe_call gC hr (by rfl) dC.g dC.F.kp dC.b .nil pass0 (pa_cons (pv 0) (pa_cons (pv 4) pa_nil))))
        (pss_cons (ps_if (pt_cmpR op_lt (pv 5) pe_int (nomark _)) (pss_one (ps_set (i := 5) nd rfl (by first | exact .inl rfl | exact .inr rfl) (pe_op op_sub pe_int (pe_op op_mul pe_int (pv 5))))) pss_nil)
        (pss_one (ps_if (pt_cmpR op_ge (pv 5) (pe_op op_pow pe_int pe_int) (nomark _))
          (pss_one (ps_for PassesOwn.never rfl (pi_range1 (by rfl) z_range (pa_cons pe_int pa_nil)) (pg_name (i := 6) nd rfl (by first | exact .inl rfl | exact .inr rfl))
            (pss_one (ps_if (pt_cmpR op_gt (pv 5) pe_int (nomark _))
              (pss_cons (ps_expr (pe_bm PySem.F.plainAttrs_list PySem.F.slot_list_append PySem.F.type_list_append mt_append (pv 3) (pa_cons (pe_op op_mod (pe_callTy call_int1 (by rfl) z_int PyProof.Rows.boot_int (pa_cons (pv 5) pa_nil)) pe_int) pa_nil)))
                (pss_one (ps_set (i := 5) nd rfl (by first | exact .inl rfl | exact .inr rfl) (pe_op op_fdiv (pv 5) pe_int)))) pss_nil))))
          (pss_cons (ps_set (i := 7) nd rfl (by first | exact .inl rfl | exact .inr rfl) (pe_op op_mod (pe_callTy call_int1 (by rfl) z_int PyProof.Rows.boot_int (pa_cons (pe_op op_add (pe_op op_add (pe_op op_mul (pv 5) pe_int) (pe_op op_mul (pv 4) pe_int)) pe_int) pa_nil)) pe_int))
            (pss_one (ps_for PassesOwn.never rfl (pi_range1 (by rfl) z_range (pa_cons pe_int pa_nil)) (pg_name (i := 6) nd rfl (by first | exact .inl rfl | exact .inr rfl))
              (pss_cons (ps_set (i := 7) nd rfl (by first | exact .inl rfl | exact .inr rfl) (pe_op op_mod (pe_callTy call_int1 (by rfl) z_int PyProof.Rows.boot_int (pa_cons (pe_op op_add (pe_op op_add (pe_op op_mul (pv 7) pe_int) (pe_op op_mul pe_int (pv 6))) pe_int) pa_nil)) pe_int))
                (pss_one (ps_expr (pe_bm PySem.F.plainAttrs_list PySem.F.slot_list_append PySem.F.type_list_append mt_append (pv 3) (pa_cons (pe_op op_mod (pe_callTy call_int1 (by rfl) z_int PyProof.Rows.boot_int (pa_cons (pe_op op_fdiv (pv 7) pe_int) pa_nil)) pe_int) pa_nil)))))))))))))
      (pss_one (ps_ret (pv 3)))), ?_⟩
    refine ⟨Nat.zero_le _, fun o no => ?_⟩
    refine ⟨_, rfl, _, rfl, 0, 63, rfl, ⟨by decide, by decide, by decide, by decide⟩, for_range (lo := 0) (n := 63) (fun i σ H' => ∃ (acc : List Int) (y4 y5 y6 y7 : Option V), σ = [some (.ref p), some (.int 0), some (.int 63), some (.ref o), y4, y5, y6, y7] ∧ acc.length ≤ 60 * i ∧ H' o = some (.lst (acc.map V.int)) ∧ Same H H')
      ⟨[], none, none, none, none, rfl, Nat.le_refl _, upd_same, same_put (.refl H) no⟩ ?_ ?_⟩
    · rintro i σ H1 hi ⟨acc, y4, y5, y6, y7, rfl, hacc, ho, sm⟩
      have hS1 : SqL K H1 p (ns.map V.int) := sm.seq hS
      refine ⟨_, rfl, _, rfl, p, ns, _, rfl, hS1, hl, by omega, fun c => ?_⟩
      refine ⟨_, rfl, _, _, rfl, rfl, _, rfl, ite2 (fun _ => ⟨_, rfl, _, _, rfl, rfl, .inl ⟨by decide, by decide⟩, _, _, rfl, rfl, ?_⟩) (fun _ => ?_)⟩ <;>
      · refine ⟨_, rfl, 10, 18, rfl, rfl, ⟨by decide, by decide, by decide⟩, _, _, rfl, rfl, _, rfl, ite2 (fun _ => ?_) (fun _ => ?_)⟩
        · refine ⟨60, rfl, by decide, by decide, for_range (lo := 0) (n := 60) (fun k σ H' => ∃ (acc : List Int) (y4 y6 y7 : Option V) (c : Int), σ = [some (.ref p), some (.int 0), some (.int 63), some (.ref o), y4, some (.int c), y6, y7] ∧ acc.length ≤ 60 * i + k ∧ H' o = some (.lst (acc.map V.int)) ∧ Same H H')
            ⟨acc, _, y6, y7, _, rfl, by omega, ho, sm⟩ ?_ ?_⟩
          · rintro k σ H2 hk ⟨acc2, z4, z6, z7, c2, rfl, hacc2, ho2, sm2⟩
            refine ⟨_, rfl, _, _, rfl, rfl, _, rfl, ite2 (fun _ => ?_) (fun _ => ?_)⟩
            · refine ⟨_, rfl, .inl ⟨rfl, _, sqL_of ho2⟩, _, rfl, .inl ⟨_, rfl, _, _, rfl, rfl, (by decide : (0 : Int) < 1000), ?_⟩⟩
              refine ⟨o, _, _, rfl, rfl, ho2, Nat.lt_of_lt_of_le (show (acc2.map V.int).length < 4000 by rw [List.length_map]; omega) (by decide), ?_⟩
              refine ⟨_, rfl, _, _, rfl, rfl, ⟨by decide, by decide⟩, ?_⟩
              exact ⟨acc2 ++ [c2 % 1000], _, _, _, _, rfl, by rw [List.length_append, List.length_singleton]; omega, by rw [upd_same, List.map_append]; rfl, same_put sm2 no⟩
            · exact ⟨acc2, _, _, _, c2, rfl, by omega, ho2, sm2⟩
          · rintro σ H2 ⟨acc2, z4, z6, z7, c2, rfl, hacc2, ho2, sm2⟩
            exact ⟨acc2, _, _, _, _, rfl, by omega, ho2, sm2⟩
        · refine ⟨_, rfl, _, _, rfl, rfl, .inr ⟨by decide, by decide⟩, _, rfl, _, _, rfl, rfl, .inr ⟨by decide, by decide⟩, _, _, rfl, rfl, _, _, rfl, rfl, .inl ⟨_, rfl, _, _, rfl, rfl, (by decide : (0 : Int) < 2147483647), ?_⟩⟩
          refine ⟨12, rfl, by decide, by decide, for_range (lo := 0) (n := 12) (fun k σ H' => ∃ (acc : List Int) (y4 y5 y6 : Option V) (c : Int), σ = [some (.ref p), some (.int 0), some (.int 63), some (.ref o), y4, y5, y6, some (.int c)] ∧ acc.length ≤ 60 * i + k ∧ H' o = some (.lst (acc.map V.int)) ∧ Same H H')
            ⟨acc, _, _, y6, _, rfl, by omega, ho, sm⟩ ?_ ?_⟩
          · rintro k σ H2 hk ⟨acc2, z4, z5, z6, c2, rfl, hacc2, ho2, sm2⟩
            refine ⟨_, rfl, _, _, rfl, rfl, .inr ⟨by decide, by decide⟩, _, rfl, _, _, rfl, rfl, .inl ⟨by decide, by decide⟩, _, _, rfl, rfl, _, _, rfl, rfl, .inl ⟨_, rfl, _, _, rfl, rfl, (by decide : (0 : Int) < 2147483647), ?_⟩⟩
            refine ⟨_, rfl, .inl ⟨rfl, _, sqL_of ho2⟩, _, rfl, _, _, rfl, rfl, ⟨by decide, by decide⟩, .inl ⟨_, rfl, _, _, rfl, rfl, (by decide : (0 : Int) < 1000), ?_⟩⟩
            refine ⟨o, _, _, rfl, rfl, ho2, Nat.lt_of_lt_of_le (show (acc2.map V.int).length < 4000 by rw [List.length_map]; omega) (by decide), ?_⟩
            exact ⟨acc2 ++ [(c2 * 16807 + 7 * (0 + (k : Int)) + 1) % 2147483647 / 997 % 1000], _, _, _, _, rfl, by rw [List.length_append, List.length_singleton]; omega, by rw [upd_same, List.map_append]; rfl, same_put sm2 no⟩
          · rintro σ H2 ⟨acc2, z4, z5, z6, c2, rfl, hacc2, ho2, sm2⟩
            exact ⟨acc2, _, _, _, _, rfl, by omega, ho2, sm2⟩
    · rintro σ H1 ⟨acc, y4, y5, y6, y7, rfl, hacc, ho, sm⟩
      exact ⟨_, rfl, q H1 o acc sm no ho⟩
theorem ok_l_box {a aD : Addr} {fd fdD : FuncData} (d : Def K mg "_law_box" ["script", "first", "last"] s_l_box a fd) (dD : Def K mg "_law_digits" ["script", "first", "last"] s_l_digits aD fdD) (gD : FnOk P w K mg base CX0 2 aD fdD ["script", "first", "last"] (spDigits K)) :
    FnOk P w K mg base CX0 3 a fd ["script", "first", "last"] (spBox K) := by
  refine d.F.ok sc_l_box (fun vs H Q E h => ?_) (fun cdv A outer s H vs Q E hr h => ?_)
  · obtain ⟨p, ns, rfl, _⟩ := h
    rfl
  · obtain ⟨p, ns, rfl, hS, hl, q⟩ := h
    refine ⟨_, pss_one (ps_ret (pe_lst (pa_cons (pe_call gD hr (by rfl) dD.g dD.F.kp dD.b .nil pass0 (pa_cons (pv 0) (pa_cons (pv 1) (pa_cons (pv 2) pa_nil)))) (pa_cons pe_int pa_nil)))), ?_⟩
    refine ⟨_, rfl, _, rfl, _, rfl, p, ns, rfl, hS, hl, fun H1 dl dg sm nd hd => ⟨by show 2 ≤ sizeLine; decide, fun b nb => q _ b dl dg ⟨fun x e => ?_, fun b' e => ?_⟩⟩⟩
    · have e : x = b := e
      exact ⟨_, by rw [e]; exact upd_same⟩
    · cases e
      exact ⟨rfl, 0, upd_same, by
        show upd H1 b _ dl = _
        rw [upd_ne (ne_of_none hd nb)]
        exact hd⟩
theorem ok_l_draw {a : Addr} {fd : FuncData} (d : Def K mg "_law_draw" ["box", "many"] s_l_draw a fd) (z_len : mg "len" = none) (z_int : mg "int" = none) : FnOk P w K mg base CX0 1 a fd ["box", "many"] (spD wDraw) := by
  refine d.F.ok sc_l_draw (fun vs H Q E h => ?_) (fun cdv A outer s H vs Q E hr h => ?_)
  · obtain ⟨W, ss, Qd, k, r, ⟨many, rfl, _⟩, _⟩ := h
    exact r.length
  · obtain ⟨W, ss, Qd, k, r, ⟨many, rfl, hm, ask⟩, q⟩ := h
    cases r with
    | cons r1 r =>
      cases r with
      | cons r2 r =>
        cases r
        obtain ⟨b, hb, e1⟩ := r1
        cases e1
        obtain ⟨v2, e2, r2⟩ := r2
        cases e2
        cases r2
        obtain ⟨hmu, n, h1, h2⟩ := k.2 b hb
        have nd := sc_l_draw.nd
        refine ⟨_, pss_cons (ps_set (i := 2) nd rfl (by first | exact .inl rfl | exact .inr rfl) (pe_ix ix_list (pv 0) pe_int (fun _ _ => rfl)))
          (pss_cons (ps_asg (pe_op op_add (pv 2) pe_int) (pg_sub (pv 0) pe_int set_list))
          (pss_cons (ps_if (pt_cmpR op_lt (pv 2) (pe_callB call_len_seq (by rfl) z_len PySem.boot_len (pa_cons (pe_ix ix_list (pv 0) pe_int (fun _ _ => rfl)) pa_nil)) (nomark _))
            (pss_one (ps_ret (pe_op op_mod (pe_callTy call_int1 (by rfl) z_int PyProof.Rows.boot_int (pa_cons (pe_ix ix_list (pe_ix ix_list (pv 0) pe_int (fun _ _ => rfl)) (pv 2) (fun _ _ => rfl)) pa_nil)) (pv 1)))) pss_nil)
          (pss_one (ps_ret pe_int)))), ?_⟩
        refine ⟨_, rfl, b, _, 1, .int n, rfl, rfl, sqL_of h1, rfl, ?_⟩
        refine ⟨_, rfl, _, _, rfl, rfl, _, rfl, b, _, 1, 1, rfl, rfl, h1, rfl, ?_⟩
        -- the box behind the store
        have ne : W.dl ≠ b := fun e => by
          rw [e, h1] at h2
          have h3 : [V.ref W.dl, V.int n] = W.dg.map V.int := by injection h2 with h2; injection h2
          cases hg : W.dg with
          | nil => rw [hg] at h3; cases h3
          | cons x r => rw [hg] at h3; cases h3
        have g1 : (upd H b (.lst [.ref W.dl, .int ((n + 1 : Nat) : Int)])) b = some (.lst [.ref W.dl, .int ((n + 1 : Nat) : Int)]) := upd_same
        have g2 : (upd H b (.lst [.ref W.dl, .int ((n + 1 : Nat) : Int)])) W.dl = some (.lst (W.dg.map V.int)) := by rw [upd_ne ne]; exact h2
        have le : W.Le H (upd H b (.lst [.ref W.dl, .int ((n + 1 : Nat) : Int)])) := fun x o hx => by
          by_cases e : x = b
          · subst e
            exact ⟨fun z => absurd hb z, _, upd_same⟩
          · rw [upd_ne e]
            exact ⟨fun _ => hx, o, hx⟩
        have ok : W.Ok (upd H b (.lst [.ref W.dl, .int ((n + 1 : Nat) : Int)])) := ⟨fun x hx => by
          obtain ⟨o, ho⟩ := k.1 x hx
          exact (le x o ho).2, fun b' hb' => by
          rw [hb] at hb'
          cases hb'
          exact ⟨hmu, n + 1, g1, g2⟩⟩
        show (tSeq _ _) _ _ (upd H b (.lst [.ref W.dl, .int ((n : Int) + 1)]))
        rw [show ((n : Int) + 1) = ((n + 1 : Nat) : Int) by omega]
        refine ⟨_, rfl, _, rfl, b, _, 0, .ref W.dl, rfl, rfl, sqL_of g1, rfl, W.dl, _, rfl, .inl (sqL_of g2), _, _, rfl, rfl, _, rfl, ite2 (fun e => ?_) (fun _ => ?_)⟩
        · have hk : (n : Int) < (W.dg.length : Int) := by
            have := of_decide_eq_true e
            rwa [List.length_map] at this
          have hj : n < W.dg.length := by omega
          refine ⟨_, rfl, b, _, 0, .ref W.dl, rfl, rfl, sqL_of g1, rfl, _, rfl, W.dl, _, n, .int W.dg[n], rfl, rfl, sqL_of g2, atI_nat (by rw [List.getElem?_map, List.getElem?_eq_getElem hj]; rfl), .inl ⟨_, rfl, _, rfl, _, _, rfl, rfl, hm, ?_⟩⟩
          exact q _ _ _ (ask _ (Int.emod_nonneg _ (by omega)) (Int.emod_lt_of_pos _ hm)) le ok (.int _)
        · exact q _ _ _ (ask 0 (Int.le_refl 0) hm) le ok (.int _)
end

section
variable {P : Program} {w : World} {K : PySem.W.Frag} {mg : Str → Option Value} {base : Heap}
def m_l_some : WS := (sRet (wCB fTupOf (wCons (wLc (wRng1 (wCons (wVar 1) wNil)) (gN 3) (wB (wOp fLt (wCall wDraw (cBox 0 (cCons (wC (.int 6)) cNil))) (wVar 2))) (wVar 3) [3]) wNil)))
def w_l_some : List S → (D → Prop) → Prop := wFn 3 4 m_l_some
theorem ok_l_some {a : Addr} {fd : FuncData} {a_l_draw : Addr} {fd_l_draw : FuncData} (d : Def K mg "_law_some" ["box", "many", "sparse"] s_l_some a fd) (d_l_draw : Def K mg "_law_draw" ["box", "many"] s_l_draw a_l_draw fd_l_draw) (g_l_draw : FnOk P w K mg base CX0 1 a_l_draw fd_l_draw ["box", "many"] (spD wDraw)) (z_tuple : mg "tuple" = none) (z_range : mg "range" = none)  : FnOk P w K mg base CX0 2 a fd ["box", "many", "sparse"] (spD w_l_some) :=
  fn_mo d.F sc_l_some (fun cdv A outer s H E hr => ⟨_, (s_one (s_ret (m_callT (k_tupOf (K := K) (by rfl)) sr_tupOf (by rfl) z_tuple PyProof.Rows.boot_tuple (ma_cons (m_lc (own := [("k", 3)]) (by rfl) sc_l_some.nd (i_rng1 (by rfl) z_range (ma_cons (mv 1) ma_nil)) (blkOk_by (by kernel_rfl)) (fun _ _ _ _ _ => (g_name 3 sc_l_some.nd rfl (by first | exact .inl rfl | exact .inr rfl))) (fun _ _ _ _ _ => (ts_one (t_cmp op_lt sr_lt (m_call g_l_draw (hr.mono (by decide)) (by rfl) d_l_draw.g d_l_draw.F.kp d_l_draw.b pass0 (mc_box 0 (mc_cons m_int mc_nil))) (mv 2) (nomark _)))) (fun _ _ _ _ _ => (mv 3)) (by decide)) ma_nil))))⟩)
def m_l_table : WS := (sSeq (sAsg (wCall wDraw (cBox 0 (cCons (wOp fAdd (wVar 2) (wC (.int 1))) cNil))) (gN 3)) (sSeq (sAsg (wOp fAdd (wC (.int 2)) (wCall wDraw (cBox 0 (cCons (wC (.int 3)) cNil)))) (gN 4)) (sSeq (sAsg (wCB fTupOf (wCons (wLc (wRng1 (wCons (wCall wDraw (cBox 0 (cCons (wOp fAdd (wVar 1) (wC (.int 1))) cNil))) wNil)) (gN 6) wYes (wCall w_l_some (cBox 0 (cCons (wVar 3) (cCons (wVar 4) cNil)))) [6]) wNil)) (gN 5)) (sRet (wTup (wCons (wC (.str "table")) (wCons (wVar 3) (wCons (wVar 5) wNil))))))))
def w_l_table : List S → (D → Prop) → Prop := wFn 3 7 m_l_table
theorem ok_l_table {a : Addr} {fd : FuncData} {a_l_draw : Addr} {fd_l_draw : FuncData} {a_l_some : Addr} {fd_l_some : FuncData} (d : Def K mg "_law_table" ["box", "things", "marks"] s_l_table a fd) (d_l_draw : Def K mg "_law_draw" ["box", "many"] s_l_draw a_l_draw fd_l_draw) (g_l_draw : FnOk P w K mg base CX0 1 a_l_draw fd_l_draw ["box", "many"] (spD wDraw)) (d_l_some : Def K mg "_law_some" ["box", "many", "sparse"] s_l_some a_l_some fd_l_some) (g_l_some : FnOk P w K mg base CX0 2 a_l_some fd_l_some ["box", "many", "sparse"] (spD w_l_some)) (z_tuple : mg "tuple" = none) (z_range : mg "range" = none)  : FnOk P w K mg base CX0 3 a fd ["box", "things", "marks"] (spD w_l_table) :=
  fn_mo d.F sc_l_table (fun cdv A outer s H E hr => ⟨_, (s_cons (s_asg (m_call g_l_draw (hr.mono (by decide)) (by rfl) d_l_draw.g d_l_draw.F.kp d_l_draw.b pass0 (mc_box 0 (mc_cons (m_op (k_add (K := K) (by rfl)) sr_add (mv 2) m_int) mc_nil))) (g_name 3 sc_l_table.nd rfl (by first | exact .inl rfl | exact .inr rfl))) (s_cons (s_asg (m_op (k_add (K := K) (by rfl)) sr_add m_int (m_call g_l_draw (hr.mono (by decide)) (by rfl) d_l_draw.g d_l_draw.F.kp d_l_draw.b pass0 (mc_box 0 (mc_cons m_int mc_nil)))) (g_name 4 sc_l_table.nd rfl (by first | exact .inl rfl | exact .inr rfl))) (s_cons (s_asg (m_callT (k_tupOf (K := K) (by rfl)) sr_tupOf (by rfl) z_tuple PyProof.Rows.boot_tuple (ma_cons (m_lc (own := [("k", 6)]) (by rfl) sc_l_table.nd (i_rng1 (by rfl) z_range (ma_cons (m_call g_l_draw (hr.mono (by decide)) (by rfl) d_l_draw.g d_l_draw.F.kp d_l_draw.b pass0 (mc_box 0 (mc_cons (m_op (k_add (K := K) (by rfl)) sr_add (mv 1) m_int) mc_nil))) ma_nil)) (blkOk_by (by kernel_rfl)) (fun _ _ _ _ _ => (g_name 6 sc_l_table.nd rfl (by first | exact .inl rfl | exact .inr rfl))) (fun _ _ _ _ _ => ts_nil) (fun _ _ _ _ _ => (m_call g_l_some (hr.mono (by decide)) (by rfl) d_l_some.g d_l_some.F.kp d_l_some.b pass0 (mc_box 0 (mc_cons (mv 3) (mc_cons (mv 4) mc_nil))))) (by decide)) ma_nil)) (g_name 5 sc_l_table.nd rfl (by first | exact .inl rfl | exact .inr rfl))) (s_one (s_ret (m_tup (ma_cons m_str (ma_cons (mv 3) (ma_cons (mv 5) ma_nil)))))))))⟩)
def m_l_page : WS := (sSeq (sAsg (wOp fAdd (wOp fAdd (wC (.str "marks ")) (wCB fStrI (wCons (wOp fIx (wVar 0) (wC (.int 1))) wNil))) (wC (.str "\n"))) (gN 1)) (sSeq (sFor (wSeqI (wOp fIx (wVar 0) (wC (.int 2)))) (gN 2) (sSeq (sFor (wRng1 (wCons (wOp fIx (wVar 0) (wC (.int 1))) wNil)) (gN 3) (sIf (wB (wOp (fIn false) (wVar 3) (wVar 2))) (sAsg (wOp fAdd (wVar 1) (wC (.str "x"))) (gN 1)) (sAsg (wOp fAdd (wVar 1) (wC (.str "."))) (gN 1)))) (sAsg (wOp fAdd (wVar 1) (wC (.str "\n"))) (gN 1)))) (sRet (wVar 1))))
def w_l_page : List S → (D → Prop) → Prop := wFn 1 4 m_l_page
theorem ok_l_page {a : Addr} {fd : FuncData} (d : Def K mg "_law_page" ["table"] s_l_page a fd) (z_str : mg "str" = none) (z_range : mg "range" = none)  : FnOk P w K mg base CX0 1 a fd ["table"] (spD w_l_page) :=
  fn_mo d.F sc_l_page (fun cdv A outer s H E hr => ⟨_, (s_cons (s_asg (m_op (k_add (K := K) (by rfl)) sr_add (m_op (k_add (K := K) (by rfl)) sr_add m_str (m_callT cr_strI sr_strI (by rfl) z_str PyProof.Rows.boot_str (ma_cons (k_ix (K := K) (by rfl) (mv 0) m_int (fun _ _ => rfl)) ma_nil))) m_str) (g_name 1 sc_l_page.nd rfl (by first | exact .inl rfl | exact .inr rfl))) (s_cons (s_for PassesOwn.never rfl (k_seq (K := K) (by rfl) (k_ix (K := K) (by rfl) (mv 0) m_int (fun _ _ => rfl))) (g_name 2 sc_l_page.nd rfl (by first | exact .inl rfl | exact .inr rfl)) (s_cons (s_for PassesOwn.never rfl (i_rng1 (by rfl) z_range (ma_cons (k_ix (K := K) (by rfl) (mv 0) m_int (fun _ _ => rfl)) ma_nil)) (g_name 3 sc_l_page.nd rfl (by first | exact .inl rfl | exact .inr rfl)) (s_one (s_if (t_cmp (k_in (K := K) (by rfl)) sr_in (mv 3) (mv 2) (by rfl)) (s_one (s_asg (m_op (k_add (K := K) (by rfl)) sr_add (mv 1) m_str) (g_name 1 sc_l_page.nd rfl (by first | exact .inl rfl | exact .inr rfl)))) (s_one (s_asg (m_op (k_add (K := K) (by rfl)) sr_add (mv 1) m_str) (g_name 1 sc_l_page.nd rfl (by first | exact .inl rfl | exact .inr rfl))))))) (s_one (s_asg (m_op (k_add (K := K) (by rfl)) sr_add (mv 1) m_str) (g_name 1 sc_l_page.nd rfl (by first | exact .inl rfl | exact .inr rfl)))))) (s_one (s_ret (mv 1)))))⟩)
def m_l_same (w_l_same_ : List S → (D → Prop) → Prop) : WS := (sSeq (sIf (wB (wIsi "tuple" (wVar 1))) (sSeq (sIf (wOr (wNot (wB (wIsi "tuple" (wVar 0)))) (wB (wOp fNe (wCB fLen (wCons (wVar 0) wNil)) (wCB fLen (wCons (wVar 1) wNil))))) (sRet (wC (.bool false))) sNext) (sSeq (sFor (wRng1 (wCons (wCB fLen (wCons (wVar 1) wNil)) wNil)) (gN 2) (sIf (wNot (wB (wCall w_l_same_ (cCons (wOp fIx (wVar 0) (wVar 2)) (cCons (wOp fIx (wVar 1) (wVar 2)) cNil))))) (sRet (wC (.bool false))) sNext)) (sRet (wC (.bool true))))) sNext) (sSeq (sIf (wB (wOp (fIsN false) (wVar 1) (wC .none))) (sRet (wOp (fIsN false) (wVar 0) (wC .none))) sNext) (sSeq (sIf (wB (wIsi "bool" (wVar 1))) (sRet (wAndV (wIsi "bool" (wVar 0)) (wOp fEq (wVar 0) (wVar 1)))) sNext) (sSeq (sIf (wB (wIsi "int" (wVar 1))) (sRet (wAndV (wIsi "int" (wVar 0)) (wAndV (wNotV (wIsi "bool" (wVar 0))) (wOp fEq (wVar 0) (wVar 1))))) sNext) (sRet (wAndV (wIsi "str" (wVar 0)) (wOp fEq (wVar 0) (wVar 1))))))))
def w_l_same : Nat → List S → (D → Prop) → Prop
  | 0 => fun _ _ => False
  | m + 1 => wFn 2 3 (m_l_same (w_l_same m))
theorem ok_l_same {a : Addr} {fd : FuncData} (d : Def K mg "_law_same" ["actual", "expected"] s_l_same a fd) (z_isinstance : mg "isinstance" = none) (z_tuple : mg "tuple" = none) (z_len : mg "len" = none) (z_range : mg "range" = none) (z_bool : mg "bool" = none) (z_int : mg "int" = none) (z_str : mg "str" = none)  : ∀ m : Nat, FnOk P w K mg base CX0 m a fd ["actual", "expected"] (spD (w_l_same m))
  | 0 => fn_never
  | m + 1 => by
    have ih := ok_l_same d z_isinstance z_tuple z_len z_range z_bool z_int z_str  m
    have d_l_same := d
    exact fn_mo d.F sc_l_same (fun cdv A outer s H E hr => ⟨_, (s_cons (s_if (t_val (k_isi (K := K) (by rfl) kit_tuple (by rfl) z_isinstance (mv 1) (by rfl) z_tuple PyProof.Rows.boot_tuple)) (s_cons (s_if (MW.t (w_or (t_not (t_val (k_isi (K := K) (by rfl) kit_tuple (by rfl) z_isinstance (mv 0) (by rfl) z_tuple PyProof.Rows.boot_tuple))) (w_or1 (t_cmp (k_ne (K := K) (by rfl) hr.units) sr_ne (m_callB (k_len (K := K) (by rfl)) sr_len (by rfl) z_len PySem.boot_len (ma_cons (mv 0) ma_nil)) (m_callB (k_len (K := K) (by rfl)) sr_len (by rfl) z_len PySem.boot_len (ma_cons (mv 1) ma_nil)) (nomark _))))) (s_one (s_ret m_bl)) s_nil) (s_cons (s_for PassesOwn.never rfl (i_rng1 (by rfl) z_range (ma_cons (m_callB (k_len (K := K) (by rfl)) sr_len (by rfl) z_len PySem.boot_len (ma_cons (mv 1) ma_nil)) ma_nil)) (g_name 2 sc_l_same.nd rfl (by first | exact .inl rfl | exact .inr rfl)) (s_one (s_if (t_not (t_val (m_call ih hr (by rfl) d_l_same.g d_l_same.F.kp d_l_same.b pass0 (mc_cons (k_ix (K := K) (by rfl) (mv 0) (mv 2) (fun _ _ => rfl)) (mc_cons (k_ix (K := K) (by rfl) (mv 1) (mv 2) (fun _ _ => rfl)) mc_nil))))) (s_one (s_ret m_bl)) s_nil))) (s_one (s_ret m_bl)))) s_nil) (s_cons (s_if (t_cmp op_isN sr_isN (mv 1) m_non (nomark _)) (s_one (s_ret (m_cmp op_isN sr_isN (mv 0) m_non (nomark _)))) s_nil) (s_cons (s_if (t_val (k_isi (K := K) (by rfl) kit_bool (by rfl) z_isinstance (mv 1) (by rfl) z_bool PyProof.Rows.boot_bool)) (s_one (s_ret (m_and (k_isi (K := K) (by rfl) kit_bool (by rfl) z_isinstance (mv 0) (by rfl) z_bool PyProof.Rows.boot_bool) (m_one (m_cmp (k_eq (K := K) (by rfl) hr.units) sr_eq (mv 0) (mv 1) (nomark _)))))) s_nil) (s_cons (s_if (t_val (k_isi (K := K) (by rfl) kit_int (by rfl) z_isinstance (mv 1) (by rfl) z_int PyProof.Rows.boot_int)) (s_one (s_ret (m_and (k_isi (K := K) (by rfl) kit_int (by rfl) z_isinstance (mv 0) (by rfl) z_int PyProof.Rows.boot_int) (m_and (m_not (k_isi (K := K) (by rfl) kit_bool (by rfl) z_isinstance (mv 0) (by rfl) z_bool PyProof.Rows.boot_bool)) (m_one (m_cmp (k_eq (K := K) (by rfl) hr.units) sr_eq (mv 0) (mv 1) (nomark _))))))) s_nil) (s_one (s_ret (m_and (k_isi (K := K) (by rfl) kit_str (by rfl) z_isinstance (mv 0) (by rfl) z_str PyProof.Rows.boot_str) (m_one (m_cmp (k_eq (K := K) (by rfl) hr.units) sr_eq (mv 0) (mv 1) (nomark _))))))))))⟩)
def m_signs_of : WS := (sRet (wM1 fJoin (wC (.str "")) (wLc (wRng1 (wCons (wVar 1) wNil)) (gN 2) wYes (wIf (wB (wOp (fIn false) (wVar 2) (wVar 0))) (wC (.str "x")) (wC (.str "."))) [2])))
def w_signs_of : List S → (D → Prop) → Prop := wFn 2 3 m_signs_of
theorem ok_signs_of {a : Addr} {fd : FuncData} (d : Def K mg "signs_of" ["row", "many"] s_signs_of a fd) (z_range : mg "range" = none) {t_HAS : Tok} (c_HAS : mg "HAS" = some (.str "x" t_HAS)) {t_LACKS : Tok} (c_LACKS : mg "LACKS" = some (.str "." t_LACKS))  : FnOk P w K mg base CX0 1 a fd ["row", "many"] (spD w_signs_of) :=
  fn_mo d.F sc_signs_of (fun cdv A outer s H E hr => ⟨_, (s_one (s_ret (k_join (K := K) (by rfl) m_str (m_lc (own := [("mark", 2)]) (by rfl) sc_signs_of.nd (i_rng1 (by rfl) z_range (ma_cons (mv 1) ma_nil)) (blkOk_by (by kernel_rfl)) (fun _ _ _ _ _ => (g_name 2 sc_signs_of.nd rfl (by first | exact .inl rfl | exact .inr rfl))) (fun _ _ _ _ _ => ts_nil) (fun _ _ _ _ _ => (m_if (t_cmp (k_in (K := K) (by rfl)) sr_in (mv 2) (mv 0) (by rfl)) (m_globS (by rfl) c_HAS) (m_globS (by rfl) c_LACKS))) (by decide)))))⟩)
def m_write : WS := (sSeq (sAsg (wVar 0) (gT 3 (gsCons (gN 1) (gsCons (gN 2) (gsCons (gN 3) gsNil))))) (sSeq (sOwn 4 (wCons (wJoined [(wFmt (wC (.str "marks "))), (wFmt (wVar 2))]) wNil)) (sSeq (sFor (wSeqI (wVar 3)) (gN 5) (sApp 4 (wCall w_signs_of (cCons (wVar 5) (cCons (wVar 2) cNil))))) (sFrz 4 (sRet (wM1 fJoin (wC (.str "")) (wLc (wSeqI (wVar 4)) (gN 6) wYes (wOp fAdd (wVar 6) (wC (.str "\n"))) [6])))))))
def w_write : List S → (D → Prop) → Prop := wFn 1 7 m_write
theorem ok_write {a : Addr} {fd : FuncData} {a_signs_of : Addr} {fd_signs_of : FuncData} (d : Def K mg "write" ["table"] s_write a fd) (d_signs_of : Def K mg "signs_of" ["row", "many"] s_signs_of a_signs_of fd_signs_of) (g_signs_of : FnOk P w K mg base CX0 1 a_signs_of fd_signs_of ["row", "many"] (spD w_signs_of)) {t_HEAD : Tok} (c_HEAD : mg "HEAD" = some (.str "marks " t_HEAD))  : FnOk P w K mg base CX0 2 a fd ["table"] (spD w_write) :=
  fn_mo d.F sc_write (fun cdv A outer s H E hr => ⟨_, (s_cons (s_asg (mv 0) (k_tup (K := K) (by rfl) (by rfl) (gs_cons (g_name 1 sc_write.nd rfl (by first | exact .inl rfl | exact .inr rfl)) (gs_cons (g_name 2 sc_write.nd rfl (by first | exact .inl rfl | exact .inr rfl)) (gs_cons (g_name 3 sc_write.nd rfl (by first | exact .inl rfl | exact .inr rfl)) gs_nil))))) (s_cons (s_own (i := 4) sc_write.nd rfl (by first | exact .inl rfl | exact .inr rfl) (ma_cons (m_joined (.cons (m_fmt (m_globS (by rfl) c_HEAD)) (.cons (m_fmt (mv 2)) .nil))) ma_nil)) (s_cons (s_for PassesOwn.never rfl (k_seq (K := K) (by rfl) (mv 3)) (g_name 5 sc_write.nd rfl (by first | exact .inl rfl | exact .inr rfl)) (s_one (s_app 4 (K := K) (by rfl) (m_call g_signs_of (hr.mono (by decide)) (by rfl) d_signs_of.g d_signs_of.F.kp d_signs_of.b pass0 (mc_cons (mv 5) (mc_cons (mv 2) mc_nil)))))) (s_frz 4 (s_one (s_ret (k_join (K := K) (by rfl) m_str (m_lc (own := [("line", 6)]) (by rfl) sc_write.nd (k_seq (K := K) (by rfl) (mv 4)) (blkOk_by (by kernel_rfl)) (fun _ _ _ _ _ => (g_name 6 sc_write.nd rfl (by first | exact .inl rfl | exact .inr rfl))) (fun _ _ _ _ _ => ts_nil) (fun _ _ _ _ _ => (m_op (k_add (K := K) (by rfl)) sr_add (mv 6) m_str)) (by decide)))))))))⟩)
def m_lines_of : WS := (sSeq (sAsg (wM1 fSplit (wVar 0) (wC (.str "\n"))) (gN 1)) (sSeq (sIf (wB (wOp fEq (wOp fIx (wVar 1) (wNeg (wC (.int 1)))) (wC (.str "")))) (sRet (wSl (wVar 1) wNoPart (wPart (wNeg (wC (.int 1)))))) sNext) (sRet (wVar 1))))
def w_lines_of : List S → (D → Prop) → Prop := wFn 1 2 m_lines_of
theorem ok_lines_of {a : Addr} {fd : FuncData} (d : Def K mg "lines_of" ["text"] s_lines_of a fd)  : FnOk P w K mg base CX0 1 a fd ["text"] (spD w_lines_of) :=
  fn_mo d.F sc_lines_of (fun cdv A outer s H E hr => ⟨_, (s_cons (s_asg (m_split (mv 0) m_str) (g_name 1 sc_lines_of.nd rfl (by first | exact .inl rfl | exact .inr rfl))) (s_cons (s_if (t_cmp (k_eq (K := K) (by rfl) hr.units) sr_eq (k_ix (K := K) (by rfl) (mv 1) (m_neg m_int) (fun _ _ => rfl)) m_str (nomark _)) (s_one (s_ret (k_sl (K := K) (by rfl) (mv 1) o_none (o_some (m_neg m_int))))) s_nil) (s_one (s_ret (mv 1)))))⟩)
def m_is_number : WS := (sSeq (sIf (wB (wCB fAny (wCons (wLc (wSeqI (wVar 0)) (gN 1) wYes (wOp (fSign true) (wVar 1) (wC (.str "0123456789"))) [1]) wNil))) (sRet (wC (.bool false))) sNext) (sSeq (sIf (wB (wOp fEq (wCB fLen (wCons (wVar 0) wNil)) (wC (.int 2)))) (sRet (wOp fNe (wOp fIx (wVar 0) (wC (.int 0))) (wC (.str "0")))) sNext) (sRet (wOp fEq (wCB fLen (wCons (wVar 0) wNil)) (wC (.int 1))))))
def w_is_number : List S → (D → Prop) → Prop := wFn 1 2 m_is_number
theorem ok_is_number {a : Addr} {fd : FuncData} (d : Def K mg "is_number" ["word"] s_is_number a fd) (z_any : mg "any" = none) (z_len : mg "len" = none) {t_DIGITS : Tok} (c_DIGITS : mg "DIGITS" = some (.str "0123456789" t_DIGITS))  : FnOk P w K mg base CX0 1 a fd ["word"] (spD w_is_number) :=
  fn_mo d.F sc_is_number (fun cdv A outer s H E hr => ⟨_, (s_cons (s_if (t_val (m_callB (k_any (K := K) (by rfl) (by rfl)) sr_any (by rfl) z_any PyProof.Rows.boot_any (ma_cons (m_lc (own := [("sign", 1)]) (by rfl) sc_is_number.nd (k_seq (K := K) (by rfl) (mv 0)) (blkOk_by (by kernel_rfl)) (fun _ _ _ _ _ => (g_name 1 sc_is_number.nd rfl (by first | exact .inl rfl | exact .inr rfl))) (fun _ _ _ _ _ => ts_nil) (fun _ _ _ _ _ => (m_cmp op_notIn_sign sr_sign (mv 1) (m_globS (by rfl) c_DIGITS) (by rfl))) (by decide)) ma_nil))) (s_one (s_ret m_bl)) s_nil) (s_cons (s_if (t_cmp (k_eq (K := K) (by rfl) hr.units) sr_eq (m_callB (k_len (K := K) (by rfl)) sr_len (by rfl) z_len PySem.boot_len (ma_cons (mv 0) ma_nil)) m_int (nomark _)) (s_one (s_ret (m_cmp (k_ne (K := K) (by rfl) hr.units) sr_ne (k_ix (K := K) (by rfl) (mv 0) m_int (fun _ _ => rfl)) m_str (nomark _)))) s_nil) (s_one (s_ret (m_cmp (k_eq (K := K) (by rfl) hr.units) sr_eq (m_callB (k_len (K := K) (by rfl)) sr_len (by rfl) z_len PySem.boot_len (ma_cons (mv 0) ma_nil)) m_int (nomark _))))))⟩)
def m_many_told : WS := (sSeq (sIf (wOr (wB (wOp fEq (wVar 0) (wLst wNil))) (wNot (wB (wM1 fStarts (wOp fIx (wVar 0) (wC (.int 0))) (wC (.str "marks ")))))) sNever sNext) (sSeq (sAsg (wSl (wOp fIx (wVar 0) (wC (.int 0))) (wPart (wCB fLen (wCons (wC (.str "marks ")) wNil))) wNoPart) (gN 1)) (sSeq (sIf (wNot (wB (wCall w_is_number (cCons (wVar 1) cNil)))) sNever sNext) (sRet (wCB fIntA (wCons (wVar 1) wNil))))))
def w_many_told : List S → (D → Prop) → Prop := wFn 1 2 m_many_told
theorem ok_many_told {a : Addr} {fd : FuncData} {a_is_number : Addr} {fd_is_number : FuncData} (d : Def K mg "many_told" ["lines"] s_many_told a fd) (d_is_number : Def K mg "is_number" ["word"] s_is_number a_is_number fd_is_number) (g_is_number : FnOk P w K mg base CX0 1 a_is_number fd_is_number ["word"] (spD w_is_number)) (z_len : mg "len" = none) (z_int : mg "int" = none) {t_HEAD : Tok} (c_HEAD : mg "HEAD" = some (.str "marks " t_HEAD))  : FnOk P w K mg base CX0 2 a fd ["lines"] (spD w_many_told) :=
  fn_mo d.F sc_many_told (fun cdv A outer s H E hr => ⟨_, (s_cons (s_if (MW.t (w_or (t_cmp (k_eq (K := K) (by rfl) hr.units) sr_eq (mv 0) (m_lst ma_nil) (nomark _)) (w_or1 (t_not (t_val (m_starts (k_ix (K := K) (by rfl) (mv 0) m_int (fun _ _ => rfl)) (m_globS (by rfl) c_HEAD))))))) (s_one s_never) s_nil) (s_cons (s_asg (k_sl (K := K) (by rfl) (k_ix (K := K) (by rfl) (mv 0) m_int (fun _ _ => rfl)) (o_some (m_callB (k_len (K := K) (by rfl)) sr_len (by rfl) z_len PySem.boot_len (ma_cons (m_globS (by rfl) c_HEAD) ma_nil))) o_none) (g_name 1 sc_many_told.nd rfl (by first | exact .inl rfl | exact .inr rfl))) (s_cons (s_if (t_not (t_val (m_call g_is_number (hr.mono (by decide)) (by rfl) d_is_number.g d_is_number.F.kp d_is_number.b pass0 (mc_cons (mv 1) mc_nil)))) (s_one s_never) s_nil) (s_one (s_ret (m_callT cr_intA sr_intA (by rfl) z_int PyProof.Rows.boot_int (ma_cons (mv 1) ma_nil)))))))⟩)
def m_row_of : WS := (sSeq (sIf (wB (wCB fAny (wCons (wLc (wSeqI (wVar 0)) (gN 3) wYes (wOp (fIn true) (wVar 3) (wTup (wCons (wC (.str "x")) (wCons (wC (.str ".")) wNil)))) [3]) wNil))) sNever sNext) (sSeq (sIf (wB (wOp fNe (wCB fLen (wCons (wVar 0) wNil)) (wVar 2))) sNever sNext) (sRet (wCB fTupOf (wCons (wLc (wEn (wVar 0)) (gT 2 (gsCons (gN 4) (gsCons (gN 3) gsNil))) (wB (wOp fEq (wVar 3) (wC (.str "x")))) (wVar 4) [4, 3]) wNil)))))
def w_row_of : List S → (D → Prop) → Prop := wFn 3 5 m_row_of
theorem ok_row_of {a : Addr} {fd : FuncData} (d : Def K mg "row_of" ["line", "number", "many"] s_row_of a fd) (z_any : mg "any" = none) (z_len : mg "len" = none) (z_tuple : mg "tuple" = none) (z_enumerate : mg "enumerate" = none) {t_LACKS : Tok} (c_LACKS : mg "LACKS" = some (.str "." t_LACKS)) {t_HAS : Tok} (c_HAS : mg "HAS" = some (.str "x" t_HAS))  : FnOk P w K mg base CX0 1 a fd ["line", "number", "many"] (spD w_row_of) :=
  fn_mo d.F sc_row_of (fun cdv A outer s H E hr => ⟨_, (s_cons (s_if (t_val (m_callB (k_any (K := K) (by rfl) (by rfl)) sr_any (by rfl) z_any PyProof.Rows.boot_any (ma_cons (m_lc (own := [("sign", 3)]) (by rfl) sc_row_of.nd (k_seq (K := K) (by rfl) (mv 0)) (blkOk_by (by kernel_rfl)) (fun _ _ _ _ _ => (g_name 3 sc_row_of.nd rfl (by first | exact .inl rfl | exact .inr rfl))) (fun _ _ _ _ _ => ts_nil) (fun _ _ _ _ _ => (m_cmp (k_notIn (K := K) (by rfl)) sr_in (mv 3) (m_tup (ma_cons (m_globS (by rfl) c_HAS) (ma_cons (m_globS (by rfl) c_LACKS) ma_nil))) (by rfl))) (by decide)) ma_nil))) (s_one s_never) s_nil) (s_cons (s_if (t_cmp (k_ne (K := K) (by rfl) hr.units) sr_ne (m_callB (k_len (K := K) (by rfl)) sr_len (by rfl) z_len PySem.boot_len (ma_cons (mv 0) ma_nil)) (mv 2) (nomark _)) (s_one s_never) s_nil) (s_one (s_ret (m_callT (k_tupOf (K := K) (by rfl)) sr_tupOf (by rfl) z_tuple PyProof.Rows.boot_tuple (ma_cons (m_lc (own := [("mark", 4), ("sign", 3)]) (by rfl) sc_row_of.nd (i_en (by rfl) z_enumerate (mv 0)) (blkOk_by (by kernel_rfl)) (fun _ _ _ _ _ => (k_tup (K := K) (by rfl) (by rfl) (gs_cons (g_name 4 sc_row_of.nd rfl (by first | exact .inl rfl | exact .inr rfl)) (gs_cons (g_name 3 sc_row_of.nd rfl (by first | exact .inl rfl | exact .inr rfl)) gs_nil)))) (fun _ _ _ _ _ => (ts_one (t_cmp (k_eq (K := K) (by rfl) hr.units) sr_eq (mv 3) (m_globS (by rfl) c_HAS) (nomark _)))) (fun _ _ _ _ _ => (mv 4)) (by decide)) ma_nil))))))⟩)
def m_read : WS := (sSeq (sAsg (wCall w_lines_of (cCons (wVar 0) cNil)) (gN 1)) (sSeq (sAsg (wCall w_many_told (cCons (wVar 1) cNil)) (gN 2)) (sSeq (sOwn 3 wNil) (sSeq (sFor (wEnK 2 (wSl (wVar 1) (wPart (wC (.int 1))) wNoPart)) (gT 2 (gsCons (gN 4) (gsCons (gN 5) gsNil))) (sApp 3 (wCall w_row_of (cCons (wVar 5) (cCons (wVar 4) (cCons (wVar 2) cNil)))))) (sFrz 3 (sSeq (sIf (wNot (wB (wM1 fEnds (wVar 0) (wC (.str "\n"))))) sNever sNext) (sRet (wTup (wCons (wC (.str "table")) (wCons (wVar 2) (wCons (wCB fTupOf (wCons (wVar 3) wNil)) wNil)))))))))))
def w_read : List S → (D → Prop) → Prop := wFn 1 6 m_read
theorem ok_read {a : Addr} {fd : FuncData} {a_lines_of : Addr} {fd_lines_of : FuncData} {a_many_told : Addr} {fd_many_told : FuncData} {a_row_of : Addr} {fd_row_of : FuncData} (d : Def K mg "read" ["text"] s_read a fd) (d_lines_of : Def K mg "lines_of" ["text"] s_lines_of a_lines_of fd_lines_of) (g_lines_of : FnOk P w K mg base CX0 1 a_lines_of fd_lines_of ["text"] (spD w_lines_of)) (d_many_told : Def K mg "many_told" ["lines"] s_many_told a_many_told fd_many_told) (g_many_told : FnOk P w K mg base CX0 2 a_many_told fd_many_told ["lines"] (spD w_many_told)) (d_row_of : Def K mg "row_of" ["line", "number", "many"] s_row_of a_row_of fd_row_of) (g_row_of : FnOk P w K mg base CX0 1 a_row_of fd_row_of ["line", "number", "many"] (spD w_row_of)) (z_enumerate : mg "enumerate" = none) (z_tuple : mg "tuple" = none)  : FnOk P w K mg base CX0 3 a fd ["text"] (spD w_read) :=
  fn_mo d.F sc_read (fun cdv A outer s H E hr => ⟨_, (s_cons (s_asg (m_call g_lines_of (hr.mono (by decide)) (by rfl) d_lines_of.g d_lines_of.F.kp d_lines_of.b pass0 (mc_cons (mv 0) mc_nil)) (g_name 1 sc_read.nd rfl (by first | exact .inl rfl | exact .inr rfl))) (s_cons (s_asg (m_call g_many_told (hr.mono (by decide)) (by rfl) d_many_told.g d_many_told.F.kp d_many_told.b pass0 (mc_cons (mv 1) mc_nil)) (g_name 2 sc_read.nd rfl (by first | exact .inl rfl | exact .inr rfl))) (s_cons (s_own (i := 3) sc_read.nd rfl (by first | exact .inl rfl | exact .inr rfl) ma_nil) (s_cons (s_for PassesOwn.never rfl (i_enK (by decide) (by decide) (by rfl) z_enumerate (k_sl (K := K) (by rfl) (mv 1) (o_some m_int) o_none)) (k_tup (K := K) (by rfl) (by rfl) (gs_cons (g_name 4 sc_read.nd rfl (by first | exact .inl rfl | exact .inr rfl)) (gs_cons (g_name 5 sc_read.nd rfl (by first | exact .inl rfl | exact .inr rfl)) gs_nil))) (s_one (s_app 3 (K := K) (by rfl) (m_call g_row_of (hr.mono (by decide)) (by rfl) d_row_of.g d_row_of.F.kp d_row_of.b pass0 (mc_cons (mv 5) (mc_cons (mv 4) (mc_cons (mv 2) mc_nil))))))) (s_frz 3 (s_cons (s_if (t_not (t_val (m_ends (mv 0) m_str))) (s_one s_never) s_nil) (s_one (s_ret (m_tup (ma_cons m_str (ma_cons (mv 2) (ma_cons (m_callT (k_tupOf (K := K) (by rfl)) sr_tupOf (by rfl) z_tuple PyProof.Rows.boot_tuple (ma_cons (mv 3) ma_nil)) ma_nil))))))))))))⟩)
def m_law : WS := (sSeq (sFor (wRng1 (wCons (wC (.int 6)) wNil)) (gN 2) (sSeq (sAsg (wCall w_l_table (cBox 1 (cCons (wC (.int 8)) (cCons (wC (.int 7)) cNil)))) (gN 3)) (sSeq (sAsg (wCall w_l_page (cCons (wVar 3) cNil)) (gN 4)) (sIf (wOr (wNot (wB (wCall (w_l_same 12) (cCons (wCall w_write (cCons (wVar 3) cNil)) (cCons (wVar 4) cNil))))) (wNot (wB (wCall (w_l_same 12) (cCons (wCall w_read (cCons (wVar 4) cNil)) (cCons (wVar 3) cNil)))))) (sRet (wC (.bool false))) sNext)))) (sRet (wC (.bool true))))
theorem ok_law (ask : lawAsk 3 m_law) {a : Addr} {fd : FuncData} {a_l_table : Addr} {fd_l_table : FuncData} {a_l_page : Addr} {fd_l_page : FuncData} {a_write : Addr} {fd_write : FuncData} {a_l_same : Addr} {fd_l_same : FuncData} {a_read : Addr} {fd_read : FuncData} {a_l_box : Addr} {fd_l_box : FuncData} (d : Def K mg "law" ["script"] s_law a fd) (d_l_table : Def K mg "_law_table" ["box", "things", "marks"] s_l_table a_l_table fd_l_table) (g_l_table : FnOk P w K mg base CX0 3 a_l_table fd_l_table ["box", "things", "marks"] (spD w_l_table)) (d_l_page : Def K mg "_law_page" ["table"] s_l_page a_l_page fd_l_page) (g_l_page : FnOk P w K mg base CX0 1 a_l_page fd_l_page ["table"] (spD w_l_page)) (d_write : Def K mg "write" ["table"] s_write a_write fd_write) (g_write : FnOk P w K mg base CX0 2 a_write fd_write ["table"] (spD w_write)) (d_l_same : Def K mg "_law_same" ["actual", "expected"] s_l_same a_l_same fd_l_same) (g_l_same : FnOk P w K mg base CX0 12 a_l_same fd_l_same ["actual", "expected"] (spD (w_l_same 12))) (d_read : Def K mg "read" ["text"] s_read a_read fd_read) (g_read : FnOk P w K mg base CX0 3 a_read fd_read ["text"] (spD w_read)) (d_l_box : Def K mg "_law_box" ["script", "first", "last"] s_l_box a_l_box fd_l_box) (g_l_box : FnOk P w K mg base CX0 3 a_l_box fd_l_box ["script", "first", "last"] (spBox K)) (z_range : mg "range" = none)  : FnOk P w K mg base CX0 13 a fd ["script"] (spLaw K) := by
  refine d.F.ok sc_law (fun vs H Q E h => ?_) (fun cdv A outer s H vs Q E hr h => ?_)
  · obtain ⟨p, ns, rfl, _⟩ := h
    rfl
  · obtain ⟨p, ns, rfl, hS, hl, q⟩ := h
    have body : MSs (cxOf CX0 P w K mg base ["script", "box", "turn", "table", "text"] "law" (defScope s_law) a cdv A outer s H E).nox (defBody s_law).tail _ m_law := (s_cons (s_for PassesOwn.never rfl (i_rng1 (by rfl) z_range (ma_cons m_int ma_nil)) (g_name 2 sc_law.nd rfl (by first | exact .inl rfl | exact .inr rfl)) (s_cons (s_asg (m_call g_l_table (hr.mono (by decide)) (by rfl) d_l_table.g d_l_table.F.kp d_l_table.b pass0 (mc_box 1 (mc_cons m_int (mc_cons m_int mc_nil)))) (g_name 3 sc_law.nd rfl (by first | exact .inl rfl | exact .inr rfl))) (s_cons (s_asg (m_call g_l_page (hr.mono (by decide)) (by rfl) d_l_page.g d_l_page.F.kp d_l_page.b pass0 (mc_cons (mv 3) mc_nil)) (g_name 4 sc_law.nd rfl (by first | exact .inl rfl | exact .inr rfl))) (s_one (s_if (MW.t (w_or (t_not (t_val (m_call g_l_same (hr.mono (by decide)) (by rfl) d_l_same.g d_l_same.F.kp d_l_same.b pass0 (mc_cons (m_call g_write (hr.mono (by decide)) (by rfl) d_write.g d_write.F.kp d_write.b pass0 (mc_cons (mv 3) mc_nil)) (mc_cons (mv 4) mc_nil))))) (w_or1 (t_not (t_val (m_call g_l_same (hr.mono (by decide)) (by rfl) d_l_same.g d_l_same.F.kp d_l_same.b pass0 (mc_cons (m_call g_read (hr.mono (by decide)) (by rfl) d_read.g d_read.F.kp d_read.b pass0 (mc_cons (mv 4) mc_nil)) (mc_cons (mv 3) mc_nil)))))))) (s_one (s_ret m_bl)) s_nil))))) (s_one (s_ret m_bl)))
    refine ⟨_, pss_cons (ps_set (i := 1) sc_law.nd rfl (by first | exact .inl rfl | exact .inr rfl) (pe_call g_l_box (hr.mono (by decide)) (by rfl) d_l_box.g d_l_box.F.kp d_l_box.b .nil pass0 (pa_cons (pv 0) (pa_cons pe_int (pa_cons pe_int pa_nil))))) body.ps, ?_⟩
    exact ⟨_, rfl, p, ns, rfl, hS, hl, fun H1 b dl dg kb => law_rest body.ss ask kb fun H2 => q H2⟩
end
/-! ### what the top has written, the head -/
theorem all_mk {l : PySem.W.OpenLaw} {w : World} {K : PySem.W.Frag} {h : Heap} (ask : lawAsk 3 m_law) {f0 : Addr} {od0 an0 : Option Addr} {sl0 : Array (Option Value)} {oc0 kV0 dc0 pm0 cd0 ct0 : Value} {f1 : Addr} {od1 an1 : Option Addr} {sl1 : Array (Option Value)} {oc1 kV1 dc1 pm1 cd1 ct1 : Value} {f2 : Addr} {od2 an2 : Option Addr} {sl2 : Array (Option Value)} {oc2 kV2 dc2 pm2 cd2 ct2 : Value} {f3 : Addr} {od3 an3 : Option Addr} {sl3 : Array (Option Value)} {oc3 kV3 dc3 pm3 cd3 ct3 : Value} {f4 : Addr} {od4 an4 : Option Addr} {sl4 : Array (Option Value)} {oc4 kV4 dc4 pm4 cd4 ct4 : Value} {f5 : Addr} {od5 an5 : Option Addr} {sl5 : Array (Option Value)} {oc5 kV5 dc5 pm5 cd5 ct5 : Value} {f6 : Addr} {od6 an6 : Option Addr} {sl6 : Array (Option Value)} {oc6 kV6 dc6 pm6 cd6 ct6 : Value} {f7 : Addr} {od7 an7 : Option Addr} {sl7 : Array (Option Value)} {oc7 kV7 dc7 pm7 cd7 ct7 : Value} {f8 : Addr} {od8 an8 : Option Addr} {sl8 : Array (Option Value)} {oc8 kV8 dc8 pm8 cd8 ct8 : Value} {f9 : Addr} {od9 an9 : Option Addr} {sl9 : Array (Option Value)} {oc9 kV9 dc9 pm9 cd9 ct9 : Value} {f10 : Addr} {od10 an10 : Option Addr} {sl10 : Array (Option Value)} {oc10 kV10 dc10 pm10 cd10 ct10 : Value} {f11 : Addr} {od11 an11 : Option Addr} {sl11 : Array (Option Value)} {oc11 kV11 dc11 pm11 cd11 ct11 : Value} {f12 : Addr} {od12 an12 : Option Addr} {sl12 : Array (Option Value)} {oc12 kV12 dc12 pm12 cd12 ct12 : Value} {f13 : Addr} {od13 an13 : Option Addr} {sl13 : Array (Option Value)} {oc13 kV13 dc13 pm13 cd13 ct13 : Value} {f14 : Addr} {od14 an14 : Option Addr} {sl14 : Array (Option Value)} {oc14 kV14 dc14 pm14 cd14 ct14 : Value} {f15 : Addr} {od15 an15 : Option Addr} {sl15 : Array (Option Value)} {oc15 kV15 dc15 pm15 cd15 ct15 : Value} {mg : Str → Option Value} {fa : Addr} (X : K.In h) (G : h.Ns mainGlobals mg) (hfa : mg "law" = some (.ref fa))
    (a0 : PySem.W.nsIn K mainGlobals "_law_cell" = some (some (.ref f0))) (l0 : K.lookup f0 = some ⟨oc0, od0, .func (PySem.W.fnOf "_law_cell" "_law_cell" (defArgs s_l_cell) (defBody s_l_cell) (defScope s_l_cell) .none kV0 dc0 pm0 an0 cd0 ct0), sl0⟩) (c0 : PySem.W.codeIn K cd0 "_law_cell" = true) (k0 : PySem.W.keepIn K (.ref f0) = true)
    (a1 : PySem.W.nsIn K mainGlobals "_law_digits" = some (some (.ref f1))) (l1 : K.lookup f1 = some ⟨oc1, od1, .func (PySem.W.fnOf "_law_digits" "_law_digits" (defArgs s_l_digits) (defBody s_l_digits) (defScope s_l_digits) .none kV1 dc1 pm1 an1 cd1 ct1), sl1⟩) (c1 : PySem.W.codeIn K cd1 "_law_digits" = true) (k1 : PySem.W.keepIn K (.ref f1) = true)
    (a2 : PySem.W.nsIn K mainGlobals "_law_box" = some (some (.ref f2))) (l2 : K.lookup f2 = some ⟨oc2, od2, .func (PySem.W.fnOf "_law_box" "_law_box" (defArgs s_l_box) (defBody s_l_box) (defScope s_l_box) .none kV2 dc2 pm2 an2 cd2 ct2), sl2⟩) (c2 : PySem.W.codeIn K cd2 "_law_box" = true) (k2 : PySem.W.keepIn K (.ref f2) = true)
    (a3 : PySem.W.nsIn K mainGlobals "_law_draw" = some (some (.ref f3))) (l3 : K.lookup f3 = some ⟨oc3, od3, .func (PySem.W.fnOf "_law_draw" "_law_draw" (defArgs s_l_draw) (defBody s_l_draw) (defScope s_l_draw) .none kV3 dc3 pm3 an3 cd3 ct3), sl3⟩) (c3 : PySem.W.codeIn K cd3 "_law_draw" = true) (k3 : PySem.W.keepIn K (.ref f3) = true)
    (a4 : PySem.W.nsIn K mainGlobals "_law_some" = some (some (.ref f4))) (l4 : K.lookup f4 = some ⟨oc4, od4, .func (PySem.W.fnOf "_law_some" "_law_some" (defArgs s_l_some) (defBody s_l_some) (defScope s_l_some) .none kV4 dc4 pm4 an4 cd4 ct4), sl4⟩) (c4 : PySem.W.codeIn K cd4 "_law_some" = true) (k4 : PySem.W.keepIn K (.ref f4) = true)
    (a5 : PySem.W.nsIn K mainGlobals "_law_table" = some (some (.ref f5))) (l5 : K.lookup f5 = some ⟨oc5, od5, .func (PySem.W.fnOf "_law_table" "_law_table" (defArgs s_l_table) (defBody s_l_table) (defScope s_l_table) .none kV5 dc5 pm5 an5 cd5 ct5), sl5⟩) (c5 : PySem.W.codeIn K cd5 "_law_table" = true) (k5 : PySem.W.keepIn K (.ref f5) = true)
    (a6 : PySem.W.nsIn K mainGlobals "_law_page" = some (some (.ref f6))) (l6 : K.lookup f6 = some ⟨oc6, od6, .func (PySem.W.fnOf "_law_page" "_law_page" (defArgs s_l_page) (defBody s_l_page) (defScope s_l_page) .none kV6 dc6 pm6 an6 cd6 ct6), sl6⟩) (c6 : PySem.W.codeIn K cd6 "_law_page" = true) (k6 : PySem.W.keepIn K (.ref f6) = true)
    (a7 : PySem.W.nsIn K mainGlobals "_law_same" = some (some (.ref f7))) (l7 : K.lookup f7 = some ⟨oc7, od7, .func (PySem.W.fnOf "_law_same" "_law_same" (defArgs s_l_same) (defBody s_l_same) (defScope s_l_same) .none kV7 dc7 pm7 an7 cd7 ct7), sl7⟩) (c7 : PySem.W.codeIn K cd7 "_law_same" = true) (k7 : PySem.W.keepIn K (.ref f7) = true)
    (a8 : PySem.W.nsIn K mainGlobals "signs_of" = some (some (.ref f8))) (l8 : K.lookup f8 = some ⟨oc8, od8, .func (PySem.W.fnOf "signs_of" "signs_of" (defArgs s_signs_of) (defBody s_signs_of) (defScope s_signs_of) .none kV8 dc8 pm8 an8 cd8 ct8), sl8⟩) (c8 : PySem.W.codeIn K cd8 "signs_of" = true) (k8 : PySem.W.keepIn K (.ref f8) = true)
    (a9 : PySem.W.nsIn K mainGlobals "write" = some (some (.ref f9))) (l9 : K.lookup f9 = some ⟨oc9, od9, .func (PySem.W.fnOf "write" "write" (defArgs s_write) (defBody s_write) (defScope s_write) .none kV9 dc9 pm9 an9 cd9 ct9), sl9⟩) (c9 : PySem.W.codeIn K cd9 "write" = true) (k9 : PySem.W.keepIn K (.ref f9) = true)
    (a10 : PySem.W.nsIn K mainGlobals "lines_of" = some (some (.ref f10))) (l10 : K.lookup f10 = some ⟨oc10, od10, .func (PySem.W.fnOf "lines_of" "lines_of" (defArgs s_lines_of) (defBody s_lines_of) (defScope s_lines_of) .none kV10 dc10 pm10 an10 cd10 ct10), sl10⟩) (c10 : PySem.W.codeIn K cd10 "lines_of" = true) (k10 : PySem.W.keepIn K (.ref f10) = true)
    (a11 : PySem.W.nsIn K mainGlobals "is_number" = some (some (.ref f11))) (l11 : K.lookup f11 = some ⟨oc11, od11, .func (PySem.W.fnOf "is_number" "is_number" (defArgs s_is_number) (defBody s_is_number) (defScope s_is_number) .none kV11 dc11 pm11 an11 cd11 ct11), sl11⟩) (c11 : PySem.W.codeIn K cd11 "is_number" = true) (k11 : PySem.W.keepIn K (.ref f11) = true)
    (a12 : PySem.W.nsIn K mainGlobals "many_told" = some (some (.ref f12))) (l12 : K.lookup f12 = some ⟨oc12, od12, .func (PySem.W.fnOf "many_told" "many_told" (defArgs s_many_told) (defBody s_many_told) (defScope s_many_told) .none kV12 dc12 pm12 an12 cd12 ct12), sl12⟩) (c12 : PySem.W.codeIn K cd12 "many_told" = true) (k12 : PySem.W.keepIn K (.ref f12) = true)
    (a13 : PySem.W.nsIn K mainGlobals "row_of" = some (some (.ref f13))) (l13 : K.lookup f13 = some ⟨oc13, od13, .func (PySem.W.fnOf "row_of" "row_of" (defArgs s_row_of) (defBody s_row_of) (defScope s_row_of) .none kV13 dc13 pm13 an13 cd13 ct13), sl13⟩) (c13 : PySem.W.codeIn K cd13 "row_of" = true) (k13 : PySem.W.keepIn K (.ref f13) = true)
    (a14 : PySem.W.nsIn K mainGlobals "read" = some (some (.ref f14))) (l14 : K.lookup f14 = some ⟨oc14, od14, .func (PySem.W.fnOf "read" "read" (defArgs s_read) (defBody s_read) (defScope s_read) .none kV14 dc14 pm14 an14 cd14 ct14), sl14⟩) (c14 : PySem.W.codeIn K cd14 "read" = true) (k14 : PySem.W.keepIn K (.ref f14) = true)
    (a15 : PySem.W.nsIn K mainGlobals "law" = some (some (.ref f15))) (l15 : K.lookup f15 = some ⟨oc15, od15, .func (PySem.W.fnOf "law" "law" (defArgs s_law) (defBody s_law) (defScope s_law) .none kV15 dc15 pm15 an15 cd15 ct15), sl15⟩) (c15 : PySem.W.codeIn K cd15 "law" = true) (k15 : PySem.W.keepIn K (.ref f15) = true)
    (z_len : PySem.W.nsIn K mainGlobals "len" = some none)
    (z_int : PySem.W.nsIn K mainGlobals "int" = some none)
    (z_range : PySem.W.nsIn K mainGlobals "range" = some none)
    (z_tuple : PySem.W.nsIn K mainGlobals "tuple" = some none)
    (z_str : PySem.W.nsIn K mainGlobals "str" = some none)
    (z_isinstance : PySem.W.nsIn K mainGlobals "isinstance" = some none)
    (z_bool : PySem.W.nsIn K mainGlobals "bool" = some none)
    (z_any : PySem.W.nsIn K mainGlobals "any" = some none)
    (z_enumerate : PySem.W.nsIn K mainGlobals "enumerate" = some none)
    {t_HAS : Tok} (c_HAS : PySem.W.nsIn K mainGlobals "HAS" = some (some (Value.str "x" t_HAS)))
    {t_LACKS : Tok} (c_LACKS : PySem.W.nsIn K mainGlobals "LACKS" = some (some (Value.str "." t_LACKS)))
    {t_HEAD : Tok} (c_HEAD : PySem.W.nsIn K mainGlobals "HEAD" = some (some (Value.str "marks " t_HEAD)))
    {t_DIGITS : Tok} (c_DIGITS : PySem.W.nsIn K mainGlobals "DIGITS" = some (some (Value.str "0123456789" t_DIGITS)))
    : ∃ fd : FuncData, (∀ (s : Shared) (v : Value), BindsTo s fd ⟨[v], []⟩ [("script", v)]) ∧ ∀ base : Heap, K.In base → base.Ns mainGlobals mg → FnOk l.prog w K mg base CX0 13 fa fd ["script"] (spLaw K) := by
  have e := hfa.symm.trans (PySem.W.mg_of X G a15)
  cases e
  have F0 := fun_mk (st := s_l_cell) l0 c0 k0
  have b0 := F0.binds (ps := ["script", "k"]) fun _ _ _ _ _ _ us hl => match us, hl with | [_, _], _ => rfl
  have d_l_cell : Def K mg "_law_cell" ["script", "k"] s_l_cell f0 _ := ⟨PySem.W.mg_of X G a0, F0, b0⟩
  have F1 := fun_mk (st := s_l_digits) l1 c1 k1
  have b1 := F1.binds (ps := ["script", "first", "last"]) fun _ _ _ _ _ _ us hl => match us, hl with | [_, _, _], _ => rfl
  have d_l_digits : Def K mg "_law_digits" ["script", "first", "last"] s_l_digits f1 _ := ⟨PySem.W.mg_of X G a1, F1, b1⟩
  have F2 := fun_mk (st := s_l_box) l2 c2 k2
  have b2 := F2.binds (ps := ["script", "first", "last"]) fun _ _ _ _ _ _ us hl => match us, hl with | [_, _, _], _ => rfl
  have d_l_box : Def K mg "_law_box" ["script", "first", "last"] s_l_box f2 _ := ⟨PySem.W.mg_of X G a2, F2, b2⟩
  have F3 := fun_mk (st := s_l_draw) l3 c3 k3
  have b3 := F3.binds (ps := ["box", "many"]) fun _ _ _ _ _ _ us hl => match us, hl with | [_, _], _ => rfl
  have d_l_draw : Def K mg "_law_draw" ["box", "many"] s_l_draw f3 _ := ⟨PySem.W.mg_of X G a3, F3, b3⟩
  have F4 := fun_mk (st := s_l_some) l4 c4 k4
  have b4 := F4.binds (ps := ["box", "many", "sparse"]) fun _ _ _ _ _ _ us hl => match us, hl with | [_, _, _], _ => rfl
  have d_l_some : Def K mg "_law_some" ["box", "many", "sparse"] s_l_some f4 _ := ⟨PySem.W.mg_of X G a4, F4, b4⟩
  have F5 := fun_mk (st := s_l_table) l5 c5 k5
  have b5 := F5.binds (ps := ["box", "things", "marks"]) fun _ _ _ _ _ _ us hl => match us, hl with | [_, _, _], _ => rfl
  have d_l_table : Def K mg "_law_table" ["box", "things", "marks"] s_l_table f5 _ := ⟨PySem.W.mg_of X G a5, F5, b5⟩
  have F6 := fun_mk (st := s_l_page) l6 c6 k6
  have b6 := F6.binds (ps := ["table"]) fun _ _ _ _ _ _ us hl => match us, hl with | [_], _ => rfl
  have d_l_page : Def K mg "_law_page" ["table"] s_l_page f6 _ := ⟨PySem.W.mg_of X G a6, F6, b6⟩
  have F7 := fun_mk (st := s_l_same) l7 c7 k7
  have b7 := F7.binds (ps := ["actual", "expected"]) fun _ _ _ _ _ _ us hl => match us, hl with | [_, _], _ => rfl
  have d_l_same : Def K mg "_law_same" ["actual", "expected"] s_l_same f7 _ := ⟨PySem.W.mg_of X G a7, F7, b7⟩
  have F8 := fun_mk (st := s_signs_of) l8 c8 k8
  have b8 := F8.binds (ps := ["row", "many"]) fun _ _ _ _ _ _ us hl => match us, hl with | [_, _], _ => rfl
  have d_signs_of : Def K mg "signs_of" ["row", "many"] s_signs_of f8 _ := ⟨PySem.W.mg_of X G a8, F8, b8⟩
  have F9 := fun_mk (st := s_write) l9 c9 k9
  have b9 := F9.binds (ps := ["table"]) fun _ _ _ _ _ _ us hl => match us, hl with | [_], _ => rfl
  have d_write : Def K mg "write" ["table"] s_write f9 _ := ⟨PySem.W.mg_of X G a9, F9, b9⟩
  have F10 := fun_mk (st := s_lines_of) l10 c10 k10
  have b10 := F10.binds (ps := ["text"]) fun _ _ _ _ _ _ us hl => match us, hl with | [_], _ => rfl
  have d_lines_of : Def K mg "lines_of" ["text"] s_lines_of f10 _ := ⟨PySem.W.mg_of X G a10, F10, b10⟩
  have F11 := fun_mk (st := s_is_number) l11 c11 k11
  have b11 := F11.binds (ps := ["word"]) fun _ _ _ _ _ _ us hl => match us, hl with | [_], _ => rfl
  have d_is_number : Def K mg "is_number" ["word"] s_is_number f11 _ := ⟨PySem.W.mg_of X G a11, F11, b11⟩
  have F12 := fun_mk (st := s_many_told) l12 c12 k12
  have b12 := F12.binds (ps := ["lines"]) fun _ _ _ _ _ _ us hl => match us, hl with | [_], _ => rfl
  have d_many_told : Def K mg "many_told" ["lines"] s_many_told f12 _ := ⟨PySem.W.mg_of X G a12, F12, b12⟩
  have F13 := fun_mk (st := s_row_of) l13 c13 k13
  have b13 := F13.binds (ps := ["line", "number", "many"]) fun _ _ _ _ _ _ us hl => match us, hl with | [_, _, _], _ => rfl
  have d_row_of : Def K mg "row_of" ["line", "number", "many"] s_row_of f13 _ := ⟨PySem.W.mg_of X G a13, F13, b13⟩
  have F14 := fun_mk (st := s_read) l14 c14 k14
  have b14 := F14.binds (ps := ["text"]) fun _ _ _ _ _ _ us hl => match us, hl with | [_], _ => rfl
  have d_read : Def K mg "read" ["text"] s_read f14 _ := ⟨PySem.W.mg_of X G a14, F14, b14⟩
  have F15 := fun_mk (st := s_law) l15 c15 k15
  have b15 := F15.binds (ps := ["script"]) fun _ _ _ _ _ _ us hl => match us, hl with | [_], _ => rfl
  have d_law : Def K mg "law" ["script"] s_law f15 _ := ⟨PySem.W.mg_of X G a15, F15, b15⟩
  have y_len := PySem.W.mg_none_of X G z_len
  have y_int := PySem.W.mg_none_of X G z_int
  have y_range := PySem.W.mg_none_of X G z_range
  have y_tuple := PySem.W.mg_none_of X G z_tuple
  have y_str := PySem.W.mg_none_of X G z_str
  have y_isinstance := PySem.W.mg_none_of X G z_isinstance
  have y_bool := PySem.W.mg_none_of X G z_bool
  have y_any := PySem.W.mg_none_of X G z_any
  have y_enumerate := PySem.W.mg_none_of X G z_enumerate
  have e_HAS := PySem.W.mg_of X G c_HAS
  have e_LACKS := PySem.W.mg_of X G c_LACKS
  have e_HEAD := PySem.W.mg_of X G c_HEAD
  have e_DIGITS := PySem.W.mg_of X G c_DIGITS
  refine ⟨PySem.W.fnOf "law" "law" (defArgs s_law) (defBody s_law) (defScope s_law) .none kV15 dc15 pm15 an15 cd15 ct15, fun s v => .of_eq rfl, fun base _ _ => ?_⟩
  have g_l_cell : FnOk l.prog w K mg base CX0 1 f0 _ ["script", "k"] (spCell K) := ok_l_cell d_l_cell y_len
  have g_l_digits : FnOk l.prog w K mg base CX0 2 f1 _ ["script", "first", "last"] (spDigits K) := ok_l_digits d_l_digits d_l_cell g_l_cell y_range y_int
  have g_l_box : FnOk l.prog w K mg base CX0 3 f2 _ ["script", "first", "last"] (spBox K) := ok_l_box d_l_box d_l_digits g_l_digits
  have g_l_draw : FnOk l.prog w K mg base CX0 1 f3 _ ["box", "many"] (spD wDraw) := ok_l_draw d_l_draw y_len y_int
  have g_l_some : FnOk l.prog w K mg base CX0 2 f4 _ ["box", "many", "sparse"] (spD w_l_some) := ok_l_some d_l_some d_l_draw g_l_draw y_tuple y_range 
  have g_l_table : FnOk l.prog w K mg base CX0 3 f5 _ ["box", "things", "marks"] (spD w_l_table) := ok_l_table d_l_table d_l_draw g_l_draw d_l_some g_l_some y_tuple y_range 
  have g_l_page : FnOk l.prog w K mg base CX0 1 f6 _ ["table"] (spD w_l_page) := ok_l_page d_l_page  y_str y_range 
  have g_l_same : FnOk l.prog w K mg base CX0 12 f7 _ ["actual", "expected"] (spD (w_l_same 12)) := ok_l_same d_l_same  y_isinstance y_tuple y_len y_range y_bool y_int y_str  12
  have g_signs_of : FnOk l.prog w K mg base CX0 1 f8 _ ["row", "many"] (spD w_signs_of) := ok_signs_of d_signs_of  y_range e_HAS e_LACKS
  have g_write : FnOk l.prog w K mg base CX0 2 f9 _ ["table"] (spD w_write) := ok_write d_write d_signs_of g_signs_of  e_HEAD
  have g_lines_of : FnOk l.prog w K mg base CX0 1 f10 _ ["text"] (spD w_lines_of) := ok_lines_of d_lines_of   
  have g_is_number : FnOk l.prog w K mg base CX0 1 f11 _ ["word"] (spD w_is_number) := ok_is_number d_is_number  y_any y_len e_DIGITS
  have g_many_told : FnOk l.prog w K mg base CX0 2 f12 _ ["lines"] (spD w_many_told) := ok_many_told d_many_told d_is_number g_is_number y_len y_int e_HEAD
  have g_row_of : FnOk l.prog w K mg base CX0 1 f13 _ ["line", "number", "many"] (spD w_row_of) := ok_row_of d_row_of  y_any y_len y_tuple y_enumerate e_LACKS e_HAS
  have g_read : FnOk l.prog w K mg base CX0 3 f14 _ ["text"] (spD w_read) := ok_read d_read d_lines_of g_lines_of d_many_told g_many_told d_row_of g_row_of y_enumerate y_tuple 
  exact ok_law ask d_law d_l_table g_l_table d_l_page g_l_page d_write g_write d_l_same g_l_same d_read g_read d_l_box g_l_box y_range 
end Lw

namespace Lw
open PySem PySem.Spec PyProof.Rows L2 Mo TL
def leaf : D → Prop
  | .none => True
  | .bool _ => True
  | .int _ => True
  | .str s => SeqAt.shaped (.str s) = true
  | _ => False
theorem same_leaf (w_ : List S → (D → Prop) → Prop) {d : D} (h : leaf d) {Q : D → Prop} (q : Q (.bool true)) : wFn 2 3 (m_l_same w_) [.d d, .d d] Q := by
  cases d with
  | none => exact ⟨dOnly2 _ _, rfl, _, rfl, false, by rw [isT_tuple]; rfl, iteF ⟨_, rfl, rfl, true, rfl, iteT ⟨_, rfl, rfl, q⟩⟩⟩
  | bool b =>
    have e : PyData.eqv (.bool b) (.bool b) = true := by show (b == b) = true; simp
    exact ⟨dOnly2 _ _, rfl, _, rfl, false, by rw [isT_tuple]; rfl, iteF ⟨_, rfl, rfl, false, rfl, iteF ⟨_, rfl, true, by rw [isT_bool]; rfl, iteT ⟨_, rfl, true, by rw [isT_bool]; rfl, iteT ⟨_, rfl, _, rfl, rfl, rfl, by rw [e]; exact q⟩⟩⟩⟩⟩
  | int i =>
    have e : PyData.eqv (.int i) (.int i) = true := by show (i == i) = true; simp
    exact ⟨dOnly2 _ _, rfl, _, rfl, false, by rw [isT_tuple]; rfl, iteF ⟨_, rfl, rfl, false, rfl, iteF ⟨_, rfl, false, by rw [isT_bool]; rfl, iteF ⟨_, rfl, true, by rw [isT_int]; rfl, iteT ⟨_, rfl, true, by rw [isT_int]; rfl, iteT ⟨_, rfl, false, by rw [isT_bool]; rfl, true, rfl, iteT ⟨_, rfl, _, rfl, rfl, rfl, by rw [e]; exact q⟩⟩⟩⟩⟩⟩⟩
  | str s =>
    have e : PyData.eqv (.str s) (.str s) = true := by show (s == s) = true; simp
    exact ⟨dOnly2 _ _, rfl, _, rfl, false, by rw [isT_tuple]; rfl, iteF ⟨_, rfl, rfl, false, rfl, iteF ⟨_, rfl, false, by rw [isT_bool]; rfl, iteF ⟨_, rfl, false, by rw [isT_int]; rfl, iteF ⟨_, rfl, true, by rw [isT_str]; rfl, iteT ⟨_, rfl, _, rfl, h, h, by rw [e]; exact q⟩⟩⟩⟩⟩⟩
  | list l => exact h.elim
  | tuple l => exact h.elim
  | dict l => exact h.elim
theorem w_l_same_is : ∀ (n : Nat) (d : D), okD n d → ∀ Q : D → Prop, Q (.bool true) → w_l_same (n + 1) [.d d, .d d] Q := by
  intro n
  induction n with
  | zero =>
    intro d hd Q q
    refine same_leaf _ ?_ q
    cases d <;> exact hd
  | succ n ih =>
    intro d hd Q q
    cases d with
    | tuple ds =>
      obtain ⟨hl, hx⟩ := hd
      refine ⟨dOnly2 _ _, rfl, _, rfl, true, by rw [isT_tuple]; rfl, iteT ⟨_, rfl, true, by rw [isT_tuple]; rfl, iteF ⟨_, rfl, .inl ⟨ds, .inr rfl, _, rfl, .inl ⟨ds, .inr rfl, fNe_n (a := ds.length) (b := ds.length) ⟨_, rfl, ?_⟩⟩⟩⟩⟩⟩
      rw [decide_eq_true rfl]
      refine iteF ⟨_, rfl, .inl ⟨ds, .inr rfl, ds.length, rfl, (rb hl).1, (rb hl).2, ?_⟩⟩
      rw [rng_n]
      refine sGo_inv (fun ρ => ∃ s, ρ = [.d (.tuple ds), .d (.tuple ds), s]) (fun d hd ρ ⟨s, e⟩ N hN => ?_) (fun ρ _ => q) ⟨_, rfl⟩
      subst e
      obtain ⟨k, hk, rfl⟩ := List.mem_map.mp hd
      have hk := List.mem_range.mp hk
      have g : ds[k]? = some ds[k] := List.getElem?_eq_getElem hk
      exact ⟨_, rfl, _, rfl, fIx_t g ⟨_, rfl, _, rfl, fIx_t g (ih ds[k] (hx _ (List.getElem_mem hk)) _ ⟨_, rfl, iteF (hN _ ⟨_, rfl⟩)⟩)⟩⟩
    | none => exact same_leaf _ (d := .none) trivial q
    | bool b => exact same_leaf _ (d := .bool b) trivial q
    | int i => exact same_leaf _ (d := .int i) trivial q
    | str s => exact same_leaf _ (d := .str s) hd q
    | list l => exact hd.elim
    | dict l => exact hd.elim

theorem same_yes {d : D} (h : okD 11 d) {Q : D → Prop} (q : Q (.bool true)) : w_l_same 12 [.d d, .d d] Q := w_l_same_is 11 d h Q q
/-! ### draws -/
theorem w_l_some_is {many : Nat} {sp : Int} (hm : many ≤ 100) {Q : D → Prop} (q : ∀ s : List Nat, s.Sublist (List.range many) → Q (setD s)) : w_l_some [.box, .d (nD many), .d (.int sp)] Q := by
  refine ⟨dOnlyB2 _ _, rfl, _, rfl, many, rfl, (rb hm).1, (rb hm).2, ?_⟩
  rw [rng_n]
  refine ⟨by rw [len_rng]; exact sz hm, ?_⟩
  refine wGo_sub id (fun d hd K k1 k2 => ?_) (fun sub hs => ⟨_, .inl rfl, ?_⟩)
  · refine ⟨rfl, 6, rfl, by decide, fun r _ _ => ⟨_, rfl, _, _, rfl, rfl, _, rfl, ?_⟩⟩
    cases decide (r < sp) with
    | true => exact ⟨_, rfl, k1⟩
    | false => exact k2
  · obtain ⟨s, hs2, rfl⟩ := List.sublist_map_iff.mp hs
    rw [List.map_id]
    exact q s hs2
theorem w_l_table_is {things marks : Nat} (ht : things ≤ 99) (hm : marks ≤ 99) {Q : D → Prop} (q : ∀ (many : Nat) (rows : List (List Nat)), many ≤ marks → rows.length ≤ things → (∀ r ∈ rows, r.Sublist (List.range many)) → Q (tblD many rows)) : w_l_table [.box, .d (nD things), .d (nD marks)] Q := by
  refine ⟨dOnlyB2 _ _, rfl, rfl, _, rfl, .inl ⟨_, _, rfl, rfl, (marks : Int) + 1, rfl, by omega, fun r h0 h1 => ?_⟩⟩
  obtain ⟨many, rfl⟩ : ∃ m : Nat, r = m := ⟨r.toNat, by omega⟩
  refine ⟨rfl, 3, rfl, by decide, fun sp _ _ => .inl ⟨_, _, rfl, rfl, rfl, _, rfl, .inl ⟨_, _, rfl, rfl, (things : Int) + 1, rfl, by omega, fun n h2 h3 => ?_⟩⟩⟩
  obtain ⟨n, rfl⟩ : ∃ m : Nat, n = m := ⟨n.toNat, by omega⟩
  refine ⟨n, rfl, by omega, by omega, ?_⟩
  rw [rng_n]
  refine ⟨by rw [len_rng]; exact sz (by omega), ?_⟩
  refine wGo_each (fun y => ∃ s : List Nat, y = setD s ∧ s.Sublist (List.range many)) (fun d hd K k => ?_) (fun out hl ho => ⟨_, .inl rfl, _, rfl, _, rfl, by show 3 ≤ sizeLine; decide, ?_⟩)
  · exact ⟨rfl, _, rfl, _, rfl, w_l_some_is (by omega) fun s hs => k _ ⟨s, rfl, hs⟩⟩
  · rw [len_rng] at hl
    have mk : ∀ out : List D, (∀ y ∈ out, ∃ s : List Nat, y = setD s ∧ s.Sublist (List.range many)) → ∃ rows : List (List Nat), out = rows.map setD ∧ ∀ r ∈ rows, r.Sublist (List.range many) := by
      intro out
      induction out with
      | nil => intro _; exact ⟨[], rfl, by simp⟩
      | cons y out ih =>
        intro h
        obtain ⟨s, hs, hs2⟩ := h y (List.mem_cons_self ..)
        obtain ⟨rows, hr, hr2⟩ := ih fun z hz => h z (List.mem_cons_of_mem _ hz)
        exact ⟨s :: rows, by rw [hs, hr]; rfl, fun r hr => by
          rcases List.mem_cons.mp hr with rfl | hr
          · exact hs2
          · exact hr2 r hr⟩
    obtain ⟨rows, rfl, hr⟩ := mk out ho
    rw [List.length_map] at hl
    exact q many rows (by omega) (by omega) hr


/-! ### texts by their codes -/
def sL (l : List Nat) : Str := ⟨l.toArray⟩
theorem tl_sL (l : List Nat) : tl (sL l) = l := rfl
theorem sL_add (a b : List Nat) : sL a ++ sL b = sL (a ++ b) := ext_tl (by rw [tl_append]; rfl)
theorem sL_len (l : List Nat) : (sL l).length = l.length := len_tl _
theorem c_x : ("x" : Str) = sL [120] := by decide +kernel
theorem c_d : ("." : Str) = sL [46] := by decide +kernel
theorem c_n : ("\n" : Str) = sL [10] := by decide +kernel
theorem c_0 : ("" : Str) = sL [] := by decide +kernel
theorem c_h : ("marks " : Str) = sL [109, 97, 114, 107, 115, 32] := by decide +kernel
theorem num_s (n : Nat) : Str.ofString (toString ((n : Nat) : Int)) = sL (numL n) := ext_tl (tl_num n)
def sign (many : Nat) (row : List Nat) (m : Nat) : Nat := if m ∈ row then 120 else 46
def lineL (many : Nat) (row : List Nat) : List Nat := (List.range many).map (sign many row)
def headL (many : Nat) : List Nat := [109, 97, 114, 107, 115, 32] ++ numL many
def pageL (many : Nat) (rows : List (List Nat)) : List Nat := headL many ++ [10] ++ rows.flatMap fun r => lineL many r ++ [10]
theorem line_len (many : Nat) (row : List Nat) : (lineL many row).length = many := by simp [lineL]
structure SmallT (many : Nat) (rows : List (List Nat)) : Prop where
  hm : many ≤ 9
  hr : rows.length ≤ 9
  hs : ∀ r ∈ rows, r.Sublist (List.range many)
theorem SmallT.row {many : Nat} {rows : List (List Nat)} (S : SmallT many rows) : ∀ r ∈ rows, r.length ≤ 9 := fun r h => Nat.le_trans (sub_len (S.hs r h)) S.hm
theorem num_len {many : Nat} (h : many ≤ 9) : numL many = [48 + many] := numL_lt (by omega)
theorem head_len {many : Nat} (h : many ≤ 9) : (headL many).length = 7 := by unfold headL; rw [num_len h]; rfl
theorem lines_len {many : Nat} : ∀ rows : List (List Nat), (rows.flatMap fun r => lineL many r ++ [10]).length = rows.length * (many + 1)
  | [] => by simp
  | r :: rows => by
    have h1 := lines_len (many := many) rows
    have h2 := line_len many r
    rw [List.flatMap_cons, List.length_append, h1, List.length_append, h2]
    rw [show (r :: rows).length = rows.length + 1 from rfl, Nat.add_mul]
    simp
    omega
theorem page_len {many : Nat} {rows : List (List Nat)} (S : SmallT many rows) : (pageL many rows).length ≤ 200 := by
  unfold pageL
  rw [List.length_append, List.length_append, head_len S.hm, lines_len]
  have : rows.length * (many + 1) ≤ 9 * 10 := Nat.mul_le_mul S.hr (by have := S.hm; omega)
  simp
  omega
theorem szS {n : Nat} (h : n ≤ 1000) : n ≤ sizeLine := Nat.le_trans h (by decide)
theorem add_s {a b : List Nat} {Q : D → Prop} (h : a.length + b.length ≤ 1000) (q : Q (.str (sL (a ++ b)))) : fAdd (.str (sL a)) (.str (sL b)) Q :=
  .inr (.inl ⟨_, _, rfl, rfl, by rw [sL_len, sL_len]; exact szS h, by rw [sL_add]; exact q⟩)
theorem rowsD_get' {rows : List (List Nat)} : itemsOf (rowsD rows) = some (rows.map setD) := rfl

theorem strI {n : Nat} (h : n ≤ 100) {Q : D → Prop} (q : Q (.str (sL (numL n)))) : fStrI [nD n] Q := ⟨n, rfl, by
  have : ((n : Nat) : Int).natAbs = n := rfl
  rw [this]
  exact Nat.lt_of_le_of_lt (Nat.log2_le_self n) (by omega), by rw [num_s]; exact q⟩
theorem w_l_page_is {many : Nat} {rows : List (List Nat)} (S : SmallT many rows) {Q : D → Prop} (q : Q (.str (sL (pageL many rows)))) : w_l_page [.d (tblD many rows)] Q := by
  have hm := S.hm
  have hr := S.hr
  refine ⟨dOnly1 _, rfl, ?_⟩
  simp only [m_l_page, sSeq, sAsg, sRet, sFor, sIf, wCB, wCons, wNil, wC, wOp, gN, wRng1, wSeqI, wB]
  refine ⟨_, rfl, fIx_t (j := 1) rfl (strI (by omega) ?_)⟩
  rw [c_h, c_n]
  refine add_s (by rw [num_len hm]; simp) (add_s (by rw [num_len hm]; simp) ?_)
  refine ⟨_, rfl, fIx_t (j := 2) rfl ⟨_, rfl, ?_⟩⟩
  refine sGo_at (fun i ρ => ∃ s2 s3, ρ = [.d (tblD many rows), .d (.str (sL (headL many ++ [10] ++ (rows.take i).flatMap fun r => lineL many r ++ [10]))), s2, s3]) 0 (fun i d ρ hd ⟨s2, s3, e⟩ N hN => ?_) (fun ρ ⟨s2, s3, e⟩ => ?_) ⟨.un, .un, by rw [List.take_zero, List.flatMap_nil, List.append_nil]; rfl⟩
  · subst e
    rw [Nat.zero_add] at hN ⊢
    rw [List.getElem?_map] at hd
    obtain ⟨row, hrow, rfl⟩ := Option.map_eq_some_iff.mp hd
    have hi : i < rows.length := (List.getElem?_eq_some_iff.mp hrow).1
    have er : rows[i] = row := (List.getElem?_eq_some_iff.mp hrow).2
    have tot : (headL many ++ [10] ++ (rows.take i).flatMap fun r => lineL many r ++ [10]).length ≤ 100 := by
      rw [List.length_append, List.length_append, head_len hm, lines_len, List.length_take]
      have : min i rows.length * (many + 1) ≤ 9 * 10 := Nat.mul_le_mul (by omega) (by omega)
      simp
      omega
    refine ⟨_, rfl, fIx_t (j := 1) rfl ⟨many, rfl, by omega, by omega, ?_⟩⟩
    rw [rng_n]
    refine sGo_at (fun k ρ => ∃ s3, ρ = [.d (tblD many rows), .d (.str (sL (headL many ++ [10] ++ ((rows.take i).flatMap fun r => lineL many r ++ [10]) ++ ((List.range many).take k).map (sign many row)))), .d (setD row), s3]) 0 (fun k d ρ hd ⟨s3, e⟩ N2 hN2 => ?_) (fun ρ ⟨s3, e⟩ => ?_) ⟨_, by simp; rfl⟩
    · subst e
      rw [Nat.zero_add] at hN2 ⊢
      rw [List.getElem?_map] at hd
      obtain ⟨m, hmm, rfl⟩ := Option.map_eq_some_iff.mp hd
      have hk : k < many := by
        have := (List.getElem?_eq_some_iff.mp hmm).1
        rwa [List.length_range] at this
      have em : m = k := by
        rw [List.getElem?_range hk] at hmm
        exact (Option.some.inj hmm).symm
      subst em
      have lk : (((List.range many).take m).map (sign many row)).length ≤ 9 := by rw [List.length_map, List.length_take, List.length_range]; omega
      have stp : ((List.range many).take (m + 1)).map (sign many row) = ((List.range many).take m).map (sign many row) ++ [sign many row m] := by
        rw [List.take_add_one, List.getElem?_range hk, List.map_append]
        rfl
      refine ⟨_, rfl, _, rfl, fIn_s ⟨_, rfl, ?_⟩⟩
      by_cases hin : m ∈ row
      · rw [decide_eq_true hin]
        refine iteT ?_
        simp only [sAsg, wOp, wC, gN]
        rw [c_x]
        refine ⟨_, rfl, add_s (by rw [List.length_append, List.length_singleton]; omega) (hN2 _ ⟨.d (nD m), ?_⟩)⟩
        rw [stp, sign, if_pos hin, ← List.append_assoc]
        rfl
      · rw [decide_eq_false hin]
        refine iteF ?_
        simp only [sAsg, wOp, wC, gN]
        rw [c_d]
        refine ⟨_, rfl, add_s (by rw [List.length_append, List.length_singleton]; omega) (hN2 _ ⟨.d (nD m), ?_⟩)⟩
        rw [stp, sign, if_neg hin, ← List.append_assoc]
        rfl
    · subst e
      rw [Nat.zero_add, len_rng]
      refine ⟨_, rfl, ?_⟩
      have lk : (((List.range many).take many).map (sign many row)).length ≤ 9 := by rw [List.length_map, List.length_take, List.length_range]; omega
      refine add_s (by rw [List.length_append, List.length_singleton]; omega) (hN _ ⟨.d (setD row), s3, ?_⟩)
      have e1 : (List.range many).take many = List.range many := List.take_of_length_le (by simp)
      rw [List.take_add_one, hrow, List.flatMap_append, e1]
      simp [lineL]
  · subst e
    rw [Nat.zero_add, List.length_map, List.take_length]
    exact ⟨_, rfl, q⟩

/-! ### lists of texts -/
theorem joinL_nil : ∀ ps : List (List Nat), joinL [] ps = ps.flatten
  | [] => rfl
  | [p] => by simp [joinL]
  | p :: q :: r => by
    show p ++ ([] ++ joinL [] (q :: r)) = _
    rw [List.nil_append, joinL_nil (q :: r)]
    rfl
theorem joinL_end (ps : List (List Nat)) : joinL [10] (ps ++ [[]]) = (ps.map (· ++ [10])).flatten := by
  induction ps with
  | nil => rfl
  | cons p r ih =>
    cases r with
    | nil =>
      show p ++ ([10] ++ []) = _
      simp
    | cons q r =>
      show p ++ ([10] ++ joinL [10] ((q :: r) ++ [[]])) = _
      rw [ih]
      simp
theorem join_s (ls : List (List Nat)) : Txt.join (sL []) (ls.map sL) = sL ls.flatten := by
  rw [join_eq]
  refine ext_tl ?_
  rw [tl_join, List.map_map]
  show joinL [] (ls.map (tl ∘ sL)) = ls.flatten
  rw [show (tl ∘ sL) = id from rfl, List.map_id, joinL_nil]
theorem sum_map_len (ls : List (List Nat)) : ((ls.map sL).map (·.length)).sum = ls.flatten.length := by
  rw [List.map_map, List.length_flatten]
  congr 1
theorem join_is {ls : List (List Nat)} (h : ls.flatten.length ≤ 1000) {Q : D → Prop} (q : Q (.str (sL ls.flatten))) : fJoin (.str (sL [])) (.list (ls.map fun l => PyData.str (sL l))) Q :=
  ⟨sL [], ls.map sL, rfl, .inl (by rw [List.map_map]; rfl), by rw [sum_map_len, sL_len, List.length_nil, Nat.mul_zero]; omega, by rw [join_s]; exact q⟩
theorem flat_one (f : Nat → Nat) : ∀ l : List Nat, (l.map fun m => [f m]).flatten = l.map f
  | [] => rfl
  | x :: l => by rw [List.map_cons, List.flatten_cons, flat_one f l]; rfl
def addN : D → D
  | .str l => .str (l ++ sL [10])
  | d => d
theorem w_signs_is {many : Nat} {row : List Nat} (hm : many ≤ 9) (hr : row.length ≤ 9) {Q : D → Prop} (q : Q (.str (sL (lineL many row)))) : w_signs_of [.d (setD row), .d (nD many)] Q := by
  refine ⟨dOnly2 _ _, rfl, ?_⟩
  simp only [m_signs_of, sRet, wC]
  refine ⟨⟨_, rfl⟩, _, rfl, many, rfl, by omega, by omega, ?_⟩
  rw [rng_n]
  refine ⟨by rw [len_rng]; exact sz (by omega), ?_⟩
  refine wGo_det (fun _ => true) (fun d => match d with | .int m => .str (sL [sign many row m.toNat]) | d => d) (fun d hd K k => ?_) ?_
  · obtain ⟨m, hm, rfl⟩ := List.mem_map.mp hd
    refine ⟨_, rfl, _, rfl, fIn_s ⟨_, rfl, ?_⟩⟩
    by_cases hin : m ∈ row
    · rw [decide_eq_true hin]
      refine iteT ?_
      have e : K (some (.str (sL [sign many row m]))) := k
      rw [sign, if_pos hin, ← c_x] at e
      exact e
    · rw [decide_eq_false hin]
      refine iteF ?_
      have e : K (some (.str (sL [sign many row m]))) := k
      rw [sign, if_neg hin, ← c_d] at e
      exact e
  · rw [List.filter_eq_self.mpr fun _ _ => rfl, List.nil_append, List.map_map, c_0]
    have e : (List.range many).map ((fun d => match d with | .int m => PyData.str (sL [sign many row m.toNat]) | d => d) ∘ nD) = ((List.range many).map fun m => [sign many row m]).map fun l => PyData.str (sL l) := by
      rw [List.map_map]
      rfl
    rw [e]
    have e2 : ((List.range many).map fun m => [sign many row m]).flatten = lineL many row := by
      exact flat_one _ _
    refine join_is (by rw [e2, line_len]; omega) ?_
    rw [e2]
    exact q
def linesL (many : Nat) (rows : List (List Nat)) : List (List Nat) := headL many :: rows.map (lineL many)
theorem page_lines (many : Nat) (rows : List (List Nat)) : ((linesL many rows).map (· ++ [10])).flatten = pageL many rows := by
  unfold linesL pageL
  rw [List.map_cons, List.flatten_cons, List.map_map, List.flatMap_def]
  rfl
theorem strsD (ls : List (List Nat)) : (ls.map fun l => PyData.str (sL l)) = (ls.map sL).map PyData.str := by rw [List.map_map]; rfl
theorem w_write_is {many : Nat} {rows : List (List Nat)} (S : SmallT many rows) {Q : D → Prop} (q : Q (.str (sL (pageL many rows)))) : w_write [.d (tblD many rows)] Q := by
  have hm := S.hm
  have hr := S.hr
  refine ⟨dOnly1 _, rfl, ?_⟩
  simp only [m_write, sSeq, sAsg, sRet, sOwn, wCons, wNil, wC]
  refine ⟨_, rfl, _, rfl, rfl, _, _, rfl, _, _, rfl, _, _, rfl, rfl, ?_⟩
  rw [c_h, c_0, c_n]
  refine .inl ⟨_, rfl, by decide, _, rfl, by decide, ?_⟩
  refine ⟨_, rfl, .inr ⟨many, rfl, by
    have : ((many : Nat) : Int).natAbs = many := rfl
    rw [this]
    exact Nat.lt_of_le_of_lt (Nat.log2_le_self _) (by omega), _, rfl, ?_, ?_⟩⟩
  · rw [num_s, show Str.empty ++ sL [109, 97, 114, 107, 115, 32] = sL [109, 97, 114, 107, 115, 32] by decide +kernel, sL_add, sL_len, List.length_append, num_len hm]
    exact szS (by simp)
  rw [num_s, show Str.empty ++ sL [109, 97, 114, 107, 115, 32] = sL [109, 97, 114, 107, 115, 32] by decide +kernel, sL_add]
  refine ⟨by show 1 ≤ sizeLine; decide, by show 4 < 7; decide, ?_⟩
  refine ⟨_, rfl, _, rfl, ?_⟩
  refine sGo_at (fun i ρ => ∃ s5, ρ = [.d (tblD many rows), .d (.str "table"), .d (nD many), .d (rowsD rows), .own ((headL many :: (rows.take i).map (lineL many)).map fun l => PyData.str (sL l)), s5, .un]) 0 (fun i d ρ hd ⟨s5, e⟩ N hN => ?_) (fun ρ ⟨s5, e⟩ => ?_) ⟨.un, rfl⟩
  · subst e
    rw [Nat.zero_add] at hN ⊢
    rw [List.getElem?_map] at hd
    obtain ⟨row, hrow, rfl⟩ := Option.map_eq_some_iff.mp hd
    have hi : i < rows.length := (List.getElem?_eq_some_iff.mp hrow).1
    refine ⟨_, rfl, _, rfl, _, rfl, w_signs_is hm (S.row row (List.mem_of_getElem? hrow)) ⟨?_, hN _ ⟨.d (setD row), ?_⟩⟩⟩
    · rw [List.length_map, List.length_cons, List.length_map, List.length_take]
      exact Nat.lt_of_lt_of_le (show _ < 100 by omega) (by decide)
    · rw [List.take_add_one, hrow]
      simp
  · subst e
    rw [Nat.zero_add, List.length_map, List.take_length]
    have hl : ((linesL many rows).map fun l => PyData.str (sL l)).length ≤ 100 := by simp [linesL]; omega
    refine ⟨_, rfl, ⟨_, rfl⟩, _, rfl, _, rfl, sz hl, ?_⟩
    refine wGo_det (fun _ => true) addN (fun d hd K k => ?_) ?_
    · obtain ⟨l, hl, rfl⟩ := List.mem_map.mp hd
      have hll : l.length ≤ 20 := by
        rcases List.mem_cons.mp hl with e | h
        · rw [e, head_len hm]; omega
        · obtain ⟨r, _, rfl⟩ := List.mem_map.mp h
          rw [line_len]; omega
      refine ⟨_, rfl, add_s (by simp; omega) ?_⟩
      have e : K (some (.str (sL l ++ sL [10]))) := k
      rw [sL_add] at e
      exact e
    · rw [List.filter_eq_self.mpr fun _ _ => rfl, List.nil_append, List.map_map]
      have e : ((linesL many rows).map (addN ∘ fun l => PyData.str (sL l))) = ((linesL many rows).map (· ++ [10])).map fun l => PyData.str (sL l) := by
        rw [List.map_map]
        refine List.map_congr_left fun l _ => ?_
        show PyData.str (sL l ++ sL [10]) = PyData.str (sL (l ++ [10]))
        rw [sL_add]
      show fJoin _ (.list ((linesL many rows).map _)) _
      rw [e]
      refine join_is (by rw [page_lines]; have := page_len S; omega) ?_
      rw [page_lines]
      exact q

/-! ### reading -/
theorem shaped_s {l : List Nat} (h : ∀ c ∈ l, c < 1000) : SeqAt.shaped (.str (sL l)) = true := by
  unfold SeqAt.shaped
  rw [Bool.and_eq_true]
  refine ⟨?_, rfl⟩
  show PyData.strOk (sL l) = true
  show (l.toArray.all fun c => decide (c < 0x110000)) = true
  rw [List.all_toArray, List.all_eq_true]
  intro c hc
  exact decide_eq_true (by have := h c hc; omega)
theorem canAll : ∀ {ls : List (List Nat)}, (∀ l ∈ ls, ∀ c ∈ l, c < 1000) → PyData.canLayAll0 (ls.map fun l => PyData.str (sL l)) = true
  | [], _ => rfl
  | l :: ls, h => by
    show (PyData.canLay0 (.str (sL l)) && PyData.canLayAll0 (ls.map fun l => PyData.str (sL l))) = true
    rw [canAll fun x hx => h x (List.mem_cons_of_mem _ hx), Bool.and_true]
    exact (Bool.and_eq_true _ _ ▸ shaped_s (h l (List.mem_cons_self ..)) : _ ∧ _).1
theorem depAll : ∀ ls : List (List Nat), PyData.depthAll (ls.map fun l => PyData.str (sL l)) = 0
  | [] => rfl
  | l :: ls => by
    show max (PyData.depth (.str (sL l))) (PyData.depthAll (ls.map fun l => PyData.str (sL l))) = 0
    rw [depAll ls]
    rfl
theorem shaped_ls {ls : List (List Nat)} (h : ∀ l ∈ ls, ∀ c ∈ l, c < 1000) : SeqAt.shaped (.list (ls.map fun l => PyData.str (sL l))) = true := by
  unfold SeqAt.shaped
  rw [Bool.and_eq_true]
  refine ⟨canAll h, ?_⟩
  show decide (PyData.depthAll (ls.map fun l => PyData.str (sL l)) + 1 ≤ 64) = true
  rw [depAll]
  decide
theorem line_codes {many : Nat} {row : List Nat} : ∀ c ∈ lineL many row, c = 120 ∨ c = 46 := fun c hc => by
  obtain ⟨m, _, rfl⟩ := List.mem_map.mp hc
  unfold sign
  split
  · exact .inl rfl
  · exact .inr rfl
theorem lines_codes {many : Nat} {rows : List (List Nat)} (hm : many ≤ 9) : ∀ l ∈ linesL many rows, ∀ c ∈ l, c < 1000 ∧ c ≠ 10 := fun l hl c hc => by
  rcases List.mem_cons.mp hl with e | h
  · subst e
    unfold headL at hc
    rw [num_len hm] at hc
    simp at hc
    omega
  · obtain ⟨r, _, rfl⟩ := List.mem_map.mp h
    rcases line_codes c hc with e | e <;> omega
theorem split_page {many : Nat} {rows : List (List Nat)} (hm : many ≤ 9) : Txt.split (sL (pageL many rows)) (sL [10]) = (linesL many rows ++ [[]]).map sL := by
  have e : Txt.join (sL [10]) ((linesL many rows ++ [[]]).map sL) = sL (pageL many rows) := by
    rw [join_eq]
    refine ext_tl ?_
    rw [tl_join, List.map_map]
    show joinL [10] ((linesL many rows ++ [[]]).map (tl ∘ sL)) = pageL many rows
    rw [show (tl ∘ sL) = id from rfl, List.map_id, joinL_end, page_lines]
  rw [← e]
  refine split_join (s := 10) (S := []) rfl (by decide +kernel) (by simp) fun p hp => ?_
  obtain ⟨l, hl, rfl⟩ := List.mem_map.mp hp
  rw [tl_sL]
  intro h
  rcases List.mem_append.mp hl with h1 | h1
  · exact (lines_codes hm l h1 10 h).2 rfl
  · rw [List.mem_singleton] at h1
    subst h1
    cases h
def linesD (many : Nat) (rows : List (List Nat)) : D := .list ((linesL many rows).map fun l => PyData.str (sL l))
theorem cut_last {xs : List D} {v : D} : Mo.cutD (xs ++ [v]) none (some (-1)) = xs := by
  unfold Mo.cutD
  have e : HT.sIx (xs ++ [v]).length (xs ++ [v]).length (some (-1)) = xs.length := by
    show (if (-1 : Int) < 0 then ((-1 : Int) + ((xs ++ [v]).length : Int)).toNat else min (-1 : Int).toNat (xs ++ [v]).length) = xs.length
    rw [if_pos (by decide), List.length_append]
    simp
    omega
  rw [e, HT.sIx_none, List.drop_zero, Nat.sub_zero, List.take_left']
  rfl
theorem w_lines_of_is {many : Nat} {rows : List (List Nat)} (S : SmallT many rows) {Q : D → Prop} (q : Q (linesD many rows)) : w_lines_of [.d (.str (sL (pageL many rows)))] Q := by
  have hm := S.hm
  refine ⟨dOnly1 _, rfl, ?_⟩
  simp only [m_lines_of, sSeq, sAsg, sRet, sIf, wB, wOp, wNeg, wC, sNext]
  rw [c_n, c_0]
  refine ⟨_, rfl, ⟨_, rfl⟩, _, _, rfl, rfl, rfl, by rw [sL_len]; exact szS (by have := page_len S; omega), ?_⟩
  rw [split_page hm]
  have e : ((linesL many rows ++ [[]]).map sL).map PyData.str = (linesL many rows).map (fun l => PyData.str (sL l)) ++ [PyData.str (sL [])] := by
    rw [List.map_map, List.map_append]
    rfl
  rw [e]
  refine ⟨_, rfl, _, rfl, _, rfl, .inl ⟨_, _, .inr rfl, atI_last _ _, shaped_s (by simp), shaped_s (by simp), _, rfl, ?_⟩⟩
  have e2 : PyData.eqv (.str (sL [])) (.str (sL [])) = true := by show (sL [] == sL []) = true; simp
  rw [e2]
  refine iteT ⟨_, rfl, _, rfl, _, rfl, .inl ⟨_, rfl, ?_⟩⟩
  rw [show (-(1 : Int)) = -1 from rfl, cut_last]
  exact q
theorem isnum_is {many : Nat} (hm : many ≤ 9) {Q : D → Prop} (q : Q (.bool true)) : w_is_number [.d (.str (sL (numL many)))] Q := by
  rw [num_len hm]
  refine ⟨dOnly1 _, rfl, ?_⟩
  simp only [m_is_number, sSeq, sRet, sIf, wB, wOp, wC, sNext, wCB, wCons, wNil]
  refine ⟨_, rfl, _, rfl, by show 1 ≤ sizeLine; decide, ?_⟩
  refine wGo_det (fun _ => true) (fun _ => .bool false) (fun d hd K k => ?_) ?_
  · have hd : d = .str (sL [48 + many]) := by
      rcases List.mem_cons.mp hd with e | h
      · exact e
      · cases h
    subst hd
    refine ⟨_, rfl, 48 + many, "0123456789", rfl, rfl, ?_⟩
    have e : decide (48 + many ∈ ("0123456789" : Str).cps.toList) = true := by
      have h2 : ("0123456789" : Str).cps.toList = [48, 49, 50, 51, 52, 53, 54, 55, 56, 57] := by decide +kernel
      rw [h2]
      refine decide_eq_true ?_
      simp
      omega
    rw [e]
    exact k
  · refine ⟨[false], rfl, _, rfl, iteF ⟨_, rfl, .inr ⟨_, rfl, by show 1 ≤ sizeLine; decide, ?_⟩⟩⟩
    refine fEq_n (a := 1) (b := 2) ⟨_, rfl, iteF ⟨_, rfl, .inr ⟨_, rfl, by show 1 ≤ sizeLine; decide, ?_⟩⟩⟩
    exact fEq_n (a := 1) (b := 1) q
theorem starts_s (a b : List Nat) : Txt.startswith (sL (a ++ b)) (sL a) = true := by
  unfold Txt.startswith
  rw [Bool.and_eq_true, StrLaws.subAt_eq]
  refine ⟨decide_eq_true (by rw [sL_len, sL_len, List.length_append]; omega), ?_⟩
  show (((a ++ b).drop 0).take (sL a).length == a) = true
  rw [sL_len, List.drop_zero, List.take_left']
  · simp
  · rfl
theorem ends_s (a b : List Nat) : Txt.endswith (sL (a ++ b)) (sL b) = true := by
  unfold Txt.endswith
  rw [Bool.and_eq_true, StrLaws.subAt_eq]
  refine ⟨decide_eq_true (by rw [sL_len, sL_len, List.length_append]; omega), ?_⟩
  show (((a ++ b).drop ((sL (a ++ b)).length - (sL b).length)).take (sL b).length == b) = true
  rw [sL_len, sL_len, List.length_append, Nat.add_sub_cancel, List.drop_left', List.take_length]
  · simp
  · rfl
theorem w_many_told_is {many : Nat} {rows : List (List Nat)} (hm : many ≤ 9) {Q : D → Prop} (q : Q (nD many)) : w_many_told [.d (linesD many rows)] Q := by
  refine ⟨dOnly1 _, rfl, ?_⟩
  simp only [m_many_told, sSeq, sAsg, sRet, sIf, wB, wOp, wC, sNext, wCB, wCons, wNil, wOr, wNot, wLst, wCall, cCons, cNil]
  rw [c_h]
  refine ⟨_, rfl, by decide, shaped_ls fun l hl c hc => (lines_codes hm l hl c hc).1, by decide, false, rfl, iteF ?_⟩
  refine ⟨_, rfl, fIx_l (j := 0) rfl ⟨⟨_, rfl⟩, _, _, rfl, rfl, _, rfl, ?_⟩⟩
  unfold headL
  rw [starts_s]
  refine iteF ⟨_, rfl, fIx_l (j := 0) rfl (.inr ⟨_, rfl, by decide, _, rfl, .inr (.inr ⟨_, rfl, by rw [sL_len, head_len hm]; decide, ?_⟩)⟩)⟩
  have e : cutS (sL (headL many)) (some ((sL [109, 97, 114, 107, 115, 32]).length : Int)) none = sL (numL many) := by
    unfold cutS headL
    rw [num_len hm]
    rfl
  rw [e]
  refine ⟨_, rfl, isnum_is hm ⟨_, rfl, iteF ⟨_, rfl, .inr ⟨_, many, rfl, ?_, ?_, q⟩⟩⟩⟩
  · rw [← num_s]
    exact int_num (by rw [num_len hm]; show 1 ≤ 4300; decide)
  · rw [sL_len, num_len hm]
    show 1 ≤ 640
    decide

def xD : D := .str (sL [120])
theorem flat_str (l : List D) (h : ∀ d ∈ l, ∃ c : Nat, d = .str (sL [c])) : l.all flatD = true := List.all_eq_true.mpr fun d hd => by
  obtain ⟨c, rfl⟩ := h d hd
  rfl
theorem eqv_s (a b : Nat) : PyData.eqv (.str (sL [a])) (.str (sL [b])) = decide (a = b) := by
  show (sL [a] == sL [b]) = _
  by_cases e : a = b
  · subst e; simp
  · rw [decide_eq_false e]
    refine beq_eq_false_iff_ne.mpr fun z => e ?_
    have := congrArg tl z
    simp [tl_sL] at this
    exact this
def pickX : D → Bool
  | .tuple [_, .str s] => s == sL [120]
  | _ => false
def fstD : D → D
  | .tuple (x :: _) => x
  | d => d
theorem signs_s (l : List Nat) : signsD (sL l) = l.map fun c => PyData.str (sL [c]) := rfl
theorem w_row_of_is {many : Nat} {row : List Nat} {number : Int} (hm : many ≤ 9) (hs : row.Sublist (List.range many)) {Q : D → Prop} (q : Q (setD row)) : w_row_of [.d (.str (sL (lineL many row))), .d (.int number), .d (nD many)] Q := by
  refine ⟨dOnly3 _ _ _, rfl, ?_⟩
  simp only [m_row_of, sSeq, sRet, sIf, wB, wOp, wC, sNext, wCB, wCons, wNil]
  have hl : (signsD (sL (lineL many row))).length ≤ 100 := by rw [signs_s, List.length_map, line_len]; omega
  refine ⟨_, rfl, _, rfl, sz hl, ?_⟩
  refine wGo_det (fun _ => true) (fun _ => .bool false) (fun d hd K k => ?_) ?_
  · rw [signs_s] at hd
    obtain ⟨c, hc, rfl⟩ := List.mem_map.mp hd
    simp only [gN, wYes, wOp, wC, wTup, wCons, wNil, ↓reduceIte]
    rw [c_x, c_d]
    refine ⟨_, rfl, by show 2 ≤ sizeLine; decide, _, .inl rfl, rfl, rfl, ?_⟩
    have e : inD (.str (sL [c])) [.str (sL [120]), .str (sL [46])] = true := by
      unfold inD
      rw [List.any_cons, List.any_cons, List.any_nil, eqv_s, eqv_s]
      rcases line_codes c hc with e | e <;> subst e <;> rfl
    rw [e]
    exact k
  · refine ⟨(lineL many row).map fun _ => false, ?_, _, rfl, ?_⟩
    · rw [List.filter_eq_self.mpr fun _ _ => rfl, signs_s, List.nil_append, List.map_map, List.map_map]
      rfl
    · rw [show ((lineL many row).map fun _ => false).any id = false by rw [List.any_map, List.any_eq_false]; simp]
      refine iteF ⟨_, rfl, .inr ⟨_, rfl, by rw [sL_len, line_len]; exact sz (by omega), ?_⟩⟩
      rw [sL_len, line_len]
      refine ⟨_, rfl, fNe_n (a := many) (b := many) ⟨_, rfl, ?_⟩⟩
      rw [decide_eq_true rfl]
      refine iteF ⟨_, rfl, _, rfl, by rw [pairsD_len]; exact sz hl, ?_⟩
      refine wGo_det pickX fstD (fun d hd K k => ?_) ?_
      · obtain ⟨i, hi, rfl⟩ := List.mem_map.mp hd
        rw [List.mem_range, signs_s, List.length_map] at hi
        have e : ((signsD (sL (lineL many row))).getD i .none) = .str (sL [(lineL many row)[i]]) := by
          rw [signs_s, List.getD_eq_getElem?_getD, List.getElem?_map, List.getElem?_eq_getElem hi]
          rfl
        rw [e] at k ⊢
        refine ⟨_, rfl, rfl, _, _, rfl, _, _, rfl, rfl, ?_⟩
        simp only [wB, wOp, wC]
        rw [c_x]
        refine ⟨_, rfl, shaped_s (by intro c hc; simp at hc; rcases line_codes _ (List.getElem_mem hi) with e | e <;> omega), shaped_s (by simp), _, rfl, ?_⟩
        exact ite_k k fun h => ⟨_, rfl, h⟩
      · refine ⟨_, .inl rfl, ?_⟩
        have e : ((pairsD 0 (signsD (sL (lineL many row)))).filter pickX).map fstD = row.map nD := by
          unfold pairsD
          rw [List.filter_map, List.map_map, signs_s, List.length_map, line_len]
          have e1 : (List.range many).filter (pickX ∘ fun i => PyData.tuple [.int (0 + (i : Nat)), ((lineL many row).map fun c => PyData.str (sL [c])).getD i .none]) = row := by
            refine Eq.trans (List.filter_congr fun i hi => ?_) (filter_sub hs List.nodup_range)
            have hi := List.mem_range.mp hi
            have e2 : ((lineL many row).map fun c => PyData.str (sL [c])).getD i .none = .str (sL [sign many row i]) := by
              unfold lineL
              rw [List.getD_eq_getElem?_getD, List.getElem?_map, List.getElem?_map, List.getElem?_range hi]
              rfl
            show pickX (.tuple [_, ((lineL many row).map fun c => PyData.str (sL [c])).getD i .none]) = _
            rw [e2]
            show (sL [sign many row i] == sL [120]) = _
            have e3 := eqv_s (sign many row i) 120
            have e4 : (sL [sign many row i] == sL [120]) = decide (sign many row i = 120) := e3
            rw [e4]
            unfold sign
            by_cases h : i ∈ row
            · rw [if_pos h, decide_eq_true h]; rfl
            · rw [if_neg h, decide_eq_false h]; rfl
          rw [e1]
          refine List.map_congr_left fun i _ => ?_
          show PyData.int (0 + (i : Int)) = PyData.int i
          rw [Int.zero_add]
        rw [List.nil_append, e]
        exact q
theorem w_read_is {many : Nat} {rows : List (List Nat)} (S : SmallT many rows) {Q : D → Prop} (q : Q (tblD many rows)) : w_read [.d (.str (sL (pageL many rows)))] Q := by
  have hm := S.hm
  have hr := S.hr
  refine ⟨dOnly1 _, rfl, ?_⟩
  simp only [m_read, sSeq, sAsg, sRet, sOwn, wCons, wNil, wC, wCall, cCons, cNil]
  refine ⟨_, rfl, w_lines_of_is S ?_⟩
  refine ⟨_, rfl, w_many_told_is hm ?_⟩
  refine ⟨by show 0 ≤ sizeLine; decide, by show 3 < 6; decide, ?_⟩
  refine ⟨_, rfl, 1, rfl, .inl ⟨_, rfl, _, rfl, ?_⟩⟩
  have e0 : Mo.cutD ((linesL many rows).map fun l => PyData.str (sL l)) (some 1) none = (rows.map (lineL many)).map fun l => PyData.str (sL l) := by
    unfold Mo.cutD linesL
    rw [HT.sIx_none, show (1 : Int) = ((1 : Nat) : Int) from rfl, HT.sIx_nat]
    simp
    exact List.take_of_length_le (by simp)
  rw [e0]
  refine sGo_at (fun i ρ => ∃ s4 s5, ρ = [.d (.str (sL (pageL many rows))), .d (linesD many rows), .d (nD many), .own ((rows.take i).map setD), s4, s5]) 0 (fun i d ρ hd ⟨s4, s5, e⟩ N hN => ?_) (fun ρ ⟨s4, s5, e⟩ => ?_) ⟨.un, .un, by rw [List.take_zero]; rfl⟩
  · subst e
    rw [Nat.zero_add] at hN ⊢
    rw [pairsD_get, List.getElem?_map, List.getElem?_map, Option.map_map, Option.map_map] at hd
    obtain ⟨row, hrow, rfl⟩ := Option.map_eq_some_iff.mp hd
    have hi : i < rows.length := (List.getElem?_eq_some_iff.mp hrow).1
    refine ⟨_, rfl, rfl, _, _, rfl, _, _, rfl, rfl, ?_⟩
    refine ⟨_, rfl, _, rfl, _, rfl, _, rfl, w_row_of_is hm (S.hs row (List.mem_of_getElem? hrow)) ⟨?_, hN _ ⟨.d (.int (2 + (i : Nat))), .d (.str (sL (lineL many row))), ?_⟩⟩⟩
    · rw [List.length_map, List.length_take]
      exact Nat.lt_of_lt_of_le (show _ < 100 by omega) (by decide)
    · rw [List.take_add_one, hrow]
      simp
  · subst e
    rw [Nat.zero_add, pairsD_len, List.length_map, List.length_map, List.take_length]
    refine ⟨_, rfl, ?_⟩
    simp only [sSeq, sIf, sRet, wNot, wB, wC, wTup, wCons, wNil, wCB, sNext]
    rw [c_n]
    refine ⟨_, rfl, ⟨_, rfl⟩, _, _, rfl, rfl, _, rfl, ?_⟩
    have e1 : Txt.endswith (sL (pageL many rows)) (sL [10]) = true := by
      have e2 : ∃ p, pageL many rows = p ++ [10] := by
        unfold pageL
        rcases List.eq_nil_or_concat rows with h | ⟨r, x, h⟩
        · subst h
          exact ⟨headL many, by simp⟩
        · subst h
          exact ⟨headL many ++ [10] ++ (r.flatMap fun r => lineL many r ++ [10]) ++ lineL many x, by simp⟩
      obtain ⟨p, hp⟩ := e2
      rw [hp]
      exact ends_s p [10]
    rw [e1]
    exact iteF ⟨_, rfl, _, rfl, _, .inl rfl, by show 3 ≤ sizeLine; decide, q⟩
theorem asked : lawAsk 3 m_law := by
  refine ⟨6, rfl, by decide, by decide, ?_⟩
  refine sGo_inv (fun ρ => ∃ s0 s2 s3 s4, ρ = [s0, .box, s2, s3, s4]) (fun d hd ρ ⟨s0, s2, s3, s4, e⟩ N hN => ?_) (fun ρ _ => rfl) ⟨_, _, _, _, rfl⟩
  subst e
  simp only [sSeq, sAsg, sIf, sRet, sNext, wCall, cCons, cNil, cBox, wC, wOp, wB, wNot, wOr, gN]
  refine ⟨rfl, w_l_table_is (things := 8) (marks := 7) (by decide) (by decide) fun many rows hmany hrows hsub => ?_⟩
  have S : SmallT many rows := ⟨by omega, by omega, hsub⟩
  refine ⟨_, rfl, w_l_page_is S ?_⟩
  have hp : okD 11 (.str (sL (pageL many rows))) := by
    show SeqAt.shaped _ = true
    refine shaped_s fun c hc => ?_
    rw [← page_lines] at hc
    obtain ⟨l, hl, hc⟩ := List.mem_flatten.mp hc
    obtain ⟨l', hl', rfl⟩ := List.mem_map.mp hl
    rcases List.mem_append.mp hc with h | h
    · exact (lines_codes (by omega) l' hl' c h).1
    · rw [List.mem_singleton] at h; omega
  refine ⟨_, rfl, w_write_is S ⟨_, rfl, same_yes hp ⟨_, rfl, iteF ?_⟩⟩⟩
  refine ⟨_, rfl, w_read_is S ⟨_, rfl, same_yes (ok_tbl 8 (by omega) fun r hr => Nat.le_trans (S.row r hr) (by omega)) ⟨_, rfl, iteF (hN _ ⟨_, _, _, _, rfl⟩)⟩⟩⟩
end Lw

open PySem PySem.W PyProof.Rows
set_option maxHeartbeats 0 in
theorem PySem.Challenge.cw_formalconcepts_k00_tables_are_written_holds : PySem.Challenge.rw_formalconcepts_k00_tables_are_written.Holds := by
  w_on; o_law; k_head; (case hw => w_witness2)
  k_fill
  refine L2.walk_of (l := PySem.Challenge.rw_formalconcepts_k00_tables_are_written) (n := 63) (k := 13) (x := "script") (CX := fun _ => L2.CX0) (sp := fun w => Mo.spLaw _) rfl (by decide) rfl ⟨rfl, by decide, by decide⟩ (fun w h Y => PySem.W.kIn_of Y) ?F (fun _ _ a ns hl _ hS => ⟨a, ns, rfl, hS, hl, fun _ => rfl⟩) (fun _ _ _ _ _ h => h)
  case F =>
    intro w mg fa h KX G hmg
    refine' Lw.all_mk Lw.asked KX G hmg ?a0 ?l0 ?c0 ?k0 ?a1 ?l1 ?c1 ?k1 ?a2 ?l2 ?c2 ?k2 ?a3 ?l3 ?c3 ?k3 ?a4 ?l4 ?c4 ?k4 ?a5 ?l5 ?c5 ?k5 ?a6 ?l6 ?c6 ?k6 ?a7 ?l7 ?c7 ?k7 ?a8 ?l8 ?c8 ?k8 ?a9 ?l9 ?c9 ?k9 ?a10 ?l10 ?c10 ?k10 ?a11 ?l11 ?c11 ?k11 ?a12 ?l12 ?c12 ?k12 ?a13 ?l13 ?c13 ?k13 ?a14 ?l14 ?c14 ?k14 ?a15 ?l15 ?c15 ?k15 ?z_len ?z_int ?z_range ?z_tuple ?z_str ?z_isinstance ?z_bool ?z_any ?z_enumerate ?c_HAS ?c_LACKS ?c_HEAD ?c_DIGITS
    (case a0 => k_is); (case l0 => k_is); (case c0 => k_is); (case k0 => k_is); (case a1 => k_is); (case l1 => k_is); (case c1 => k_is); (case k1 => k_is); (case a2 => k_is); (case l2 => k_is); (case c2 => k_is); (case k2 => k_is); (case a3 => k_is); (case l3 => k_is); (case c3 => k_is); (case k3 => k_is); (case a4 => k_is); (case l4 => k_is); (case c4 => k_is); (case k4 => k_is); (case a5 => k_is); (case l5 => k_is); (case c5 => k_is); (case k5 => k_is); (case a6 => k_is); (case l6 => k_is); (case c6 => k_is); (case k6 => k_is); (case a7 => k_is); (case l7 => k_is); (case c7 => k_is); (case k7 => k_is); (case a8 => k_is); (case l8 => k_is); (case c8 => k_is); (case k8 => k_is); (case a9 => k_is); (case l9 => k_is); (case c9 => k_is); (case k9 => k_is); (case a10 => k_is); (case l10 => k_is); (case c10 => k_is); (case k10 => k_is); (case a11 => k_is); (case l11 => k_is); (case c11 => k_is); (case k11 => k_is); (case a12 => k_is); (case l12 => k_is); (case c12 => k_is); (case k12 => k_is); (case a13 => k_is); (case l13 => k_is); (case c13 => k_is); (case k13 => k_is); (case a14 => k_is); (case l14 => k_is); (case c14 => k_is); (case k14 => k_is); (case a15 => k_is); (case l15 => k_is); (case c15 => k_is); (case k15 => k_is); (case z_len => k_is); (case z_int => k_is); (case z_range => k_is); (case z_tuple => k_is); (case z_str => k_is); (case z_isinstance => k_is); (case z_bool => k_is); (case z_any => k_is); (case z_enumerate => k_is); (case c_HAS => k_is); (case c_LACKS => k_is); (case c_HEAD => k_is); (case c_DIGITS => k_is)
