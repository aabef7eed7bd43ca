import PyProof.Rows.All
import Wide.All
import OpenK.AllK
import Wide.FinOn
import HandS.ForExc
import HandS.Comp
import HandS.Walk
import HandS.Wide
import HandS.Gcd
import HandS.Zip
import HandS.Defaults
import HandS.Ends
import HandS.IsInst
import HandS.TupAny
import HandS.TupMul
import HandS.Deep
import HandS.Text
import HandS.Conv
import HandS.Lambda
import PySem.Challenge.RW_tiesums_k02_whole_sums_of_fractions
set_option Elab.async false
set_option linter.all false
set_option maxRecDepth 100000
set_option maxHeartbeats 4000000
/-! values as data; slots; what a reading comes to, over data alone -/
namespace DL
open PySem PySem.Spec PyProof.Rows L2

inductive D where
  | non | bl (b : Bool) | int (i : Int) | str (x : Str) | val (v : V)
  | tup (xs : List D) | lst (xs : List D) | dic (kvs : List (Key × D)) | dct (kvs : List (List Key × D))
  | ins (C : Addr) (fs : List (Str × D)) | exc (C : Addr) (d : D) | scr (ns : List Int)

/-- an exception's object, held as a value -/
def ExV (a C dx : Addr) : HO := .ext fun h => ∃ (oe : Obj) (vs : Array Value), h.get? a = some oe ∧ Zc (.ref C) (some dx) oe ∧ oe.data = .fields vs

mutual
inductive Is (K : PySem.W.Frag) (G : Hp) : V → D → Prop
  | non : Is K G .non .non
  | bl (b : Bool) : Is K G (.bl b) (.bl b)
  | int (i : Int) : Is K G (.int i) (.int i)
  | str (x : Str) : Is K G (.str x) (.str x)
  | val (v : V) : Is K G v (.val v)
  | tup {a : Addr} {vs : List V} {ds : List D} : SqT K G a vs → IsL K G vs ds → Is K G (.ref a) (.tup ds)
  | lst {a : Addr} {vs : List V} {ds : List D} : G a = some (.lst vs) → IsL K G vs ds → Is K G (.ref a) (.lst ds)
  | dic {a : Addr} {vs : List (Key × V)} {ds : List (Key × D)} : G a = some (.dK vs) → IsK K G vs ds → Is K G (.ref a) (.dic ds)
  | dct {a : Addr} {vs : List (List Key × V)} {ds : List (List Key × D)} : G a = some (.dT vs) → IsT K G vs ds → Is K G (.ref a) (.dct ds)
  | ins {a dx C : Addr} {vs : List (Str × V)} {ds : List (Str × D)} : G a = some (.ins C dx vs) → IsF K G vs ds → Is K G (.ref a) (.ins C ds)
  | scr {a : Addr} {ns : List Int} : SqL K G a (ns.map V.int) → Is K G (.ref a) (.scr ns)
  | exc {a dx C : Addr} {v : V} {d : D} : G a = some (ExV a C dx) → G dx = some (.xd [("value", v)]) → Is K G v d → Is K G (.ref a) (.exc C d)
inductive IsL (K : PySem.W.Frag) (G : Hp) : List V → List D → Prop
  | nil : IsL K G [] []
  | cons {v : V} {vs : List V} {d : D} {ds : List D} : Is K G v d → IsL K G vs ds → IsL K G (v :: vs) (d :: ds)
inductive IsK (K : PySem.W.Frag) (G : Hp) : List (Key × V) → List (Key × D) → Prop
  | nil : IsK K G [] []
  | cons {k : Key} {v : V} {vs : List (Key × V)} {d : D} {ds : List (Key × D)} : Is K G v d → IsK K G vs ds → IsK K G ((k, v) :: vs) ((k, d) :: ds)
inductive IsT (K : PySem.W.Frag) (G : Hp) : List (List Key × V) → List (List Key × D) → Prop
  | nil : IsT K G [] []
  | cons {k : List Key} {v : V} {vs : List (List Key × V)} {d : D} {ds : List (List Key × D)} : Is K G v d → IsT K G vs ds → IsT K G ((k, v) :: vs) ((k, d) :: ds)
inductive IsF (K : PySem.W.Frag) (G : Hp) : List (Str × V) → List (Str × D) → Prop
  | nil : IsF K G [] []
  | cons {k : Str} {v : V} {vs : List (Str × V)} {d : D} {ds : List (Str × D)} : Is K G v d → IsF K G vs ds → IsF K G ((k, v) :: vs) ((k, d) :: ds)
end

theorem seqL_mono {K : PySem.W.Frag} {G G' : Hp} {a : Addr} {xs : List V} (e : Same G G') (h : SqL K G a xs) : SqL K G' a xs := e.seq h
theorem seqT_mono {K : PySem.W.Frag} {G G' : Hp} {a : Addr} {xs : List V} (e : Same G G') (h : SqT K G a xs) : SqT K G' a xs := by
  rcases h with (h | ⟨o, h⟩) | h
  · exact .inl (.inl (e _ _ h))
  · exact .inl (.inr ⟨o, e _ _ h⟩)
  · exact .inr h

section
variable {K : PySem.W.Frag} {G G' : Hp}
mutual
theorem Is.mono (e : Same G G') : ∀ {v : V} {d : D}, Is K G v d → Is K G' v d
  | _, _, .non => .non
  | _, _, .bl b => .bl b
  | _, _, .int i => .int i
  | _, _, .str x => .str x
  | _, _, .val v => .val v
  | _, _, .tup h t => .tup (seqT_mono e h) (IsL.mono e t)
  | _, _, .lst h t => .lst (e _ _ h) (IsL.mono e t)
  | _, _, .dic h t => .dic (e _ _ h) (IsK.mono e t)
  | _, _, .dct h t => .dct (e _ _ h) (IsT.mono e t)
  | _, _, .ins h t => .ins (e _ _ h) (IsF.mono e t)
  | _, _, .scr h => .scr (seqL_mono e h)
  | _, _, .exc h h2 t => .exc (e _ _ h) (e _ _ h2) (Is.mono e t)
theorem IsL.mono (e : Same G G') : ∀ {v : List V} {d : List D}, IsL K G v d → IsL K G' v d
  | _, _, .nil => .nil
  | _, _, .cons h t => .cons (Is.mono e h) (IsL.mono e t)
theorem IsK.mono (e : Same G G') : ∀ {v : List (Key × V)} {d : List (Key × D)}, IsK K G v d → IsK K G' v d
  | _, _, .nil => .nil
  | _, _, .cons h t => .cons (Is.mono e h) (IsK.mono e t)
theorem IsT.mono (e : Same G G') : ∀ {v : List (List Key × V)} {d : List (List Key × D)}, IsT K G v d → IsT K G' v d
  | _, _, .nil => .nil
  | _, _, .cons h t => .cons (Is.mono e h) (IsT.mono e t)
theorem IsF.mono (e : Same G G') : ∀ {v : List (Str × V)} {d : List (Str × D)}, IsF K G v d → IsF K G' v d
  | _, _, .nil => .nil
  | _, _, .cons h t => .cons (Is.mono e h) (IsF.mono e t)
end
theorem IsL.length : ∀ {vs : List V} {ds : List D}, IsL K G vs ds → vs.length = ds.length
  | _, _, .nil => rfl
  | _, _, .cons _ t => by rw [List.length_cons, List.length_cons, IsL.length t]
theorem IsL.get : ∀ {vs : List V} {ds : List D} {i : Nat} {d : D}, IsL K G vs ds → ds[i]? = some d → ∃ v, vs[i]? = some v ∧ Is K G v d
  | _, _, _, _, .nil, e => by simp at e
  | _, _, 0, _, .cons h _, e => by
    simp at e
    subst e
    exact ⟨_, rfl, h⟩
  | _, _, i + 1, d, .cons _ t, e => by
    obtain ⟨v, h1, h2⟩ := IsL.get (i := i) (d := d) t (by simpa using e)
    exact ⟨v, by simpa using h1, h2⟩
theorem IsL.getV : ∀ {vs : List V} {ds : List D} {i : Nat} {v : V}, IsL K G vs ds → vs[i]? = some v → ∃ d, ds[i]? = some d ∧ Is K G v d
  | _, _, _, _, .nil, e => by simp at e
  | _, _, 0, _, .cons h _, e => by
    simp at e
    subst e
    exact ⟨_, rfl, h⟩
  | _, _, i + 1, d, .cons _ t, e => by
    obtain ⟨v, h1, h2⟩ := IsL.getV (i := i) (v := d) t (by simpa using e)
    exact ⟨v, by simpa using h1, h2⟩
theorem IsL.append : ∀ {vs ws : List V} {ds es : List D}, IsL K G vs ds → IsL K G ws es → IsL K G (vs ++ ws) (ds ++ es)
  | _, _, _, _, .nil, s => s
  | _, _, _, _, .cons h t, s => .cons h (IsL.append t s)
theorem IsL.take : ∀ {vs : List V} {ds : List D} (n : Nat), IsL K G vs ds → IsL K G (vs.take n) (ds.take n)
  | _, _, 0, _ => .nil
  | _, _, _ + 1, .nil => .nil
  | _, _, n + 1, .cons h t => .cons h (IsL.take n t)
theorem IsL.drop : ∀ {vs : List V} {ds : List D} (n : Nat), IsL K G vs ds → IsL K G (vs.drop n) (ds.drop n)
  | _, _, 0, r => r
  | _, _, _ + 1, .nil => .nil
  | _, _, n + 1, .cons _ t => IsL.drop n t
theorem IsL.erase : ∀ {vs : List V} {ds : List D} (n : Nat), IsL K G vs ds → IsL K G (vs.eraseIdx n) (ds.eraseIdx n)
  | _, _, _, .nil => .nil
  | _, _, 0, .cons _ t => t
  | _, _, n + 1, .cons h t => .cons h (IsL.erase n t)
theorem IsL.set {v : V} {d : D} (h : Is K G v d) : ∀ {vs : List V} {ds : List D} (n : Nat), IsL K G vs ds → IsL K G (vs.set n v) (ds.set n d)
  | _, _, _, .nil => .nil
  | _, _, 0, .cons _ t => .cons h t
  | _, _, n + 1, .cons q t => .cons q (IsL.set h n t)
theorem IsL.rev : ∀ {vs : List V} {ds : List D}, IsL K G vs ds → IsL K G vs.reverse ds.reverse
  | _, _, .nil => .nil
  | _, _, .cons h t => by
    rw [List.reverse_cons, List.reverse_cons]
    exact (IsL.rev t).append (.cons h .nil)
end

/-- a list of three ints: what it gives out next hangs on it; at most k numbers were given out by its third -/
def PotAt (H : Hp) (a : Addr) (k : Nat) : Prop := ∃ x y n : Int, H a = some (.lst [.int x, .int y, .int n]) ∧ 0 ≤ x ∧ x < 2 ^ 1000 ∧ 0 ≤ y ∧ y < 2305843009213693921 ∧ 0 ≤ n ∧ n ≤ (k : Int)
theorem PotAt.mono {H : Hp} {a : Addr} {k k' : Nat} (h : PotAt H a k) (e : k ≤ k') : PotAt H a k' := by
  obtain ⟨x, y, n, h1, h2, h3, h4, h5, h6, h7⟩ := h
  exact ⟨x, y, n, h1, h2, h3, h4, h5, h6, by omega⟩

/-- an object of one's own: a dict of either kind, an instance -/
inductive OD where
  | dk (kvs : List (Key × D)) | dt (kvs : List (List Key × D)) | ins (C : Addr) (fs : List (Str × D))
inductive IsO (K : PySem.W.Frag) (G : Hp) : HO → OD → Prop
  | dk {vs : List (Key × V)} {ds : List (Key × D)} : IsK K G vs ds → IsO K G (.dK vs) (.dk ds)
  | dt {vs : List (List Key × V)} {ds : List (List Key × D)} : IsT K G vs ds → IsO K G (.dT vs) (.dt ds)
  | ins {C dx : Addr} {vs : List (Str × V)} {ds : List (Str × D)} : IsF K G vs ds → IsO K G (.ins C dx vs) (.ins C ds)
theorem IsO.mono {K : PySem.W.Frag} {G G' : Hp} (e : Same G G') {o : HO} {x : OD} (h : IsO K G o x) : IsO K G' o x := by
  cases h with
  | dk t => exact .dk (IsK.mono e t)
  | dt t => exact .dt (IsT.mono e t)
  | ins t => exact .ins (IsF.mono e t)
theorem IsO.nt {K : PySem.W.Frag} {G : Hp} {o : HO} {x : OD} (h : IsO K G o x) : (∀ ps, o ≠ .tbl ps) ∧ ∀ f, o ≠ .ext f := by
  cases h <;> exact ⟨(fun _ z => nomatch z), (fun _ z => nomatch z)⟩
inductive Slot where
  | un | dat (d : D) | own (ds : List D) | pot (a : Addr) (k : Nat) | obj (x : OD)
/-- what may be changed through it -/
def Slot.mu : Slot → Bool
  | .own _ => true
  | .pot _ _ => true
  | .obj _ => true
  | _ => false

/-- a call's ground: the written part, the frozen and the whole heap at its start, what it may change -/
structure Fx where
  K : PySem.W.Frag
  G0 : Hp
  H0 : Hp
  F0 : Addr → Prop

/-- the tables of code objects, and the name that their code objects bear -/
class TabT where
  T : List (Addr × Str)
variable [TabT]
/-- no table of code objects is frozen -/
def NoT (G : Hp) : Prop := ∀ b ps, G b ≠ some (.tbl ps)
/-- frozen things stay and grow by new ones; all things but those of F stay -/
structure Ext (G H G' H' : Hp) (F : Addr → Prop) : Prop where
  gg : Same G G'
  gh : Same G' H'
  fr : ∀ b o, H b = some o → (∀ ps, o ≠ .tbl ps) → ¬ F b → H' b = some o
  nf : ∀ b o, H b = some o → G b = none → ¬ F b → G' b = none
  th : ∀ b o, H b = some o → ∃ u, H' b = some u
  tt : LamX.Tabs TabT.T H → LamX.Tabs TabT.T H'
  nt : NoT G → NoT G'
theorem Ext.refl {G H : Hp} {F : Addr → Prop} (h : Same G H) : Ext G H G H F := ⟨Same.refl G, h, fun _ _ e _ _ => e, fun _ _ _ e _ => e, fun _ o e => ⟨o, e⟩, fun t => t, fun n => n⟩
theorem Ext.mono {G H G' H' : Hp} {F F' : Addr → Prop} (e : Ext G H G' H' F) (h : ∀ b, F b → F' b) : Ext G H G' H' F' :=
  ⟨e.gg, e.gh, fun b o q t n => e.fr b o q t fun z => n (h b z), fun b o q n m => e.nf b o q n fun z => m (h b z), e.th, e.tt, e.nt⟩
theorem Ext.trans {G H G1 H1 G2 H2 : Hp} {F F' : Addr → Prop} (a : Ext G H G1 H1 F) (b : Ext G1 H1 G2 H2 F') (h : ∀ x o, H x = some o → F' x → F x) : Ext G H G2 H2 F where
  gg := a.gg.trans b.gg
  gh := b.gh
  fr := fun x o e t n => b.fr x o (a.fr x o e t n) t fun z => n (h x o e z)
  nf := fun x o e q n =>
    let ⟨u, e1⟩ := a.th x o e
    b.nf x u e1 (a.nf x o e q n) fun z => n (h x o e z)
  th := fun x o e =>
    let ⟨u, e1⟩ := a.th x o e
    b.th x u e1
  tt := fun t => b.tt (a.tt t)
  nt := fun n => b.nt (a.nt n)
/-- not a table -/
theorem ext_tbl {f : Heap → Prop} {ps : Array Value} : HO.ext f ≠ .tbl ps := fun z => by cases z
/-- one object is written, no table, no code object -/
theorem tabs_upd {H : Hp} {p : Addr} {o u : HO} {T : List (Addr × Str)} (h : H p = some u) (n1 : ∀ ps, u ≠ .tbl ps) (n2 : ∀ f, u ≠ .ext f) (t : LamX.Tabs T H) : LamX.Tabs T (upd H p o) := fun q hq => by
  obtain ⟨ps, h1, h2, h3⟩ := t q hq
  refine ⟨ps, ?_, h2, fun pos cv hc => ?_⟩
  · rw [upd_ne fun z => by
      rw [z, h] at h1
      exact n1 ps (Option.some.inj h1)]
    exact h1
  · obtain ⟨c, e1, e2⟩ := h3 pos cv hc
    refine ⟨c, e1, ?_⟩
    rw [upd_ne fun z => by
      rw [z, h] at e2
      exact n2 _ (Option.some.inj e2)]
    exact e2
theorem tabs_new {H : Hp} {p : Addr} {o : HO} {T : List (Addr × Str)} (n : H p = none) (t : LamX.Tabs T H) : LamX.Tabs T (upd H p o) := t.ext fun b u e => by
  rw [upd_ne (ne_of_none e n)]
  exact e
theorem NoT.upd {G : Hp} {p : Addr} {o : HO} (g : NoT G) (h : ∀ ps, o ≠ .tbl ps) : NoT (L2.upd G p o) := fun b ps e => by
  by_cases hb : b = p
  · subst hb
    rw [upd_same] at e
    exact h ps (Option.some.inj e)
  · rw [upd_ne hb] at e
    exact g b ps e
/-- a new object, frozen at once -/
theorem Ext.new {G H : Hp} {F : Addr → Prop} (h : Same G H) {p : Addr} (n : H p = none) (o : HO) (ho : ∀ ps, o ≠ .tbl ps := by (intro _ z; first | cases z | exact ext_tbl z)) : Ext G H (upd G p o) (upd H p o) F := by
  have gn : G p = none := h.free n
  refine ⟨fun b u e => ?_, fun b u e => ?_, fun b u e _ _ => ?_, fun b u e q _ => ?_, fun b u e => ⟨u, ?_⟩, fun t => tabs_new n t, fun g => g.upd ho⟩
  · rw [upd_ne (ne_of_none e gn)]
    exact e
  · by_cases hb : b = p
    · subst hb
      rw [upd_same] at e ⊢
      exact e
    · rw [upd_ne hb] at e ⊢
      exact h b u e
  · rw [upd_ne (ne_of_none e n)]
    exact e
  · rw [upd_ne (ne_of_none e n)]
    exact q
  · rw [upd_ne (ne_of_none e n)]
    exact e
/-- a new object, not frozen -/
theorem Ext.newM {G H : Hp} {F : Addr → Prop} (h : Same G H) {p : Addr} (n : H p = none) (o : HO) : Ext G H G (upd H p o) F :=
  ⟨Same.refl G, fun b u e => by
    rw [upd_ne (ne_of_none (h b u e) n)]
    exact h b u e, fun b u e _ _ => by
    rw [upd_ne (ne_of_none e n)]
    exact e, fun b u e q _ => q, fun b u e => ⟨u, by
    rw [upd_ne (ne_of_none e n)]
    exact e⟩, fun t => tabs_new n t, fun g => g⟩

def SlotOk (C : Fx) (G H : Hp) : Option V → Slot → Prop
  | _, .un => True
  | o, .dat d => ∃ v, o = some v ∧ Is C.K G v d
  | o, .own ds => ∃ p vs, o = some (.ref p) ∧ G p = none ∧ H p = some (.lst vs) ∧ IsL C.K G vs ds ∧ C.H0 p = none
  | o, .pot a k => o = some (.ref a) ∧ G a = none ∧ PotAt H a k ∧ (C.F0 a ∨ C.H0 a = none)
  | o, .obj x => ∃ p u, o = some (.ref p) ∧ G p = none ∧ H p = some u ∧ IsO C.K G u x ∧ C.H0 p = none
theorem SlotOk.move {C : Fx} {G H G' H' : Hp} {o : Option V} {s : Slot} (q : SlotOk C G H o s) (gg : Same G G') (hm : s.mu = true → ∀ a u, o = some (.ref a) → H a = some u → (∀ ps, u ≠ .tbl ps) → G a = none → H' a = some u ∧ G' a = none) : SlotOk C G' H' o s := by
  cases s with
  | un => trivial
  | dat d =>
    obtain ⟨v, e, h⟩ := q
    exact ⟨v, e, h.mono gg⟩
  | own ds =>
    obtain ⟨p, vs, e, g, h, k, h0⟩ := q
    obtain ⟨a1, a2⟩ := hm rfl p _ e h (fun _ z => nomatch z) g
    exact ⟨p, vs, e, a2, a1, k.mono gg, h0⟩
  | pot a k =>
    obtain ⟨e, g, ⟨x, y, n, h, r⟩, f⟩ := q
    obtain ⟨a1, a2⟩ := hm rfl a _ e h (fun _ z => nomatch z) g
    exact ⟨e, a2, ⟨x, y, n, a1, r⟩, f⟩
  | obj x =>
    obtain ⟨p, u, e, g, h, k, h0⟩ := q
    obtain ⟨a1, a2⟩ := hm rfl p _ e h k.nt.1 g
    exact ⟨p, u, e, a2, a1, k.mono gg, h0⟩
/-- a slot that may be changed: what it is at -/
theorem SlotOk.at_ {C : Fx} {G H : Hp} {o : Option V} {s : Slot} (q : SlotOk C G H o s) (hm : s.mu = true) : ∃ a u, o = some (.ref a) ∧ G a = none ∧ H a = some u ∧ (∀ ps, u ≠ .tbl ps) ∧ (∀ f, u ≠ .ext f) ∧ (C.F0 a ∨ C.H0 a = none) := by
  cases s with
  | un => cases hm
  | dat d => cases hm
  | own ds =>
    obtain ⟨p, vs, e, g, h, k, h0⟩ := q
    exact ⟨p, _, e, g, h, (fun _ z => nomatch z), (fun _ z => nomatch z), .inr h0⟩
  | pot a k =>
    obtain ⟨e, g, ⟨x, y, n, h, r⟩, f⟩ := q
    exact ⟨a, _, e, g, h, (fun _ z => nomatch z), (fun _ z => nomatch z), f⟩
  | obj x =>
    obtain ⟨p, u, e, g, h, k, h0⟩ := q
    exact ⟨p, u, e, g, h, k.nt.1, k.nt.2, .inr h0⟩

/-- the addresses of what the slots may change -/
def Mt (σ : L2.St) (ρ : List Slot) (i : Nat) (a : Addr) : Prop := σ[i]? = some (some (.ref a)) ∧ ∃ s, ρ[i]? = some s ∧ s.mu = true
def Fp (σ : L2.St) (ρ : List Slot) (a : Addr) : Prop := ∃ i, Mt σ ρ i a

structure Sg (C : Fx) (G H : Hp) (σ : L2.St) (ρ : List Slot) : Prop where
  ext : Ext C.G0 C.H0 G H C.F0
  len : σ.length = ρ.length
  sl : ∀ (i : Nat) (s : Slot), ρ[i]? = some s → ∃ o, σ[i]? = some o ∧ SlotOk C G H o s
  dis : ∀ i j a, Mt σ ρ i a → Mt σ ρ j a → i = j

section
variable {C : Fx} {G H G' H' G1 H1 : Hp} {σ σ' : L2.St} {ρ ρ' ρ1 : List Slot}
theorem Sg.le (S : Sg C G H σ ρ) : Same G H := S.ext.gh
theorem Sg.fp_some (S : Sg C G H σ ρ) {a : Addr} (h : Fp σ ρ a) : G a = none ∧ (∃ u, H a = some u) ∧ (C.F0 a ∨ C.H0 a = none) := by
  obtain ⟨i, hs, s, hr, hm⟩ := h
  obtain ⟨o, ho, q⟩ := S.sl i _ hr
  obtain ⟨b, u, e, g, h, _, _, f⟩ := q.at_ hm
  rw [hs] at ho
  have ho := Option.some.inj ho
  rw [← ho] at e
  cases e
  exact ⟨g, ⟨u, h⟩, f⟩
/-- one step: what it kept, where it stands, it changes nothing further -/
structure Stp (C : Fx) (G H : Hp) (σ : L2.St) (ρ : List Slot) (G' H' : Hp) (ρ' : List Slot) : Prop where
  ext : Ext G H G' H' (Fp σ ρ)
  st : Sg C G' H' σ ρ'
  sub : ∀ a, Fp σ ρ' a → Fp σ ρ a
theorem Stp.refl (S : Sg C G H σ ρ) : Stp C G H σ ρ G H ρ := ⟨Ext.refl S.le, S, fun _ h => h⟩
theorem Stp.trans (a : Stp C G H σ ρ G1 H1 ρ1) (b : Stp C G1 H1 σ ρ1 G' H' ρ') : Stp C G H σ ρ G' H' ρ' :=
  ⟨a.ext.trans b.ext fun x _ _ h => a.sub x h, b.st, fun x h => a.sub x (b.sub x h)⟩
/-- nothing that the slots may change is touched -/
theorem Sg.keep (S : Sg C G H σ ρ) (e : Ext G H G' H' (fun _ => False)) : Stp C G H σ ρ G' H' ρ := by
  refine ⟨e.mono fun _ h => h.elim, ⟨S.ext.trans e fun _ _ _ h => h.elim, S.len, fun i s hs => ?_, S.dis⟩, fun _ h => h⟩
  obtain ⟨o, ho, q⟩ := S.sl i s hs
  exact ⟨o, ho, q.move e.gg fun _ a u _ h nt g => ⟨e.fr a _ h nt (fun z => z), e.nf a _ h g (fun z => z)⟩⟩
end

/-! ### what a reading comes to -/
abbrev PD := D → List Slot → Prop
def Ev (C : Fx) (te : TE) (ρ : List Slot) (P : PD) : Prop := ∀ (σ : L2.St) (G H : Hp) (Q : VK), Sg C G H σ ρ → (∀ v d G' H' ρ', Stp C G H σ ρ G' H' ρ' → P d ρ' → Is C.K G' v d → Q v H') → te σ H Q
def EvT (C : Fx) (tt : TT) (ρ : List Slot) (P : Bool → List Slot → Prop) : Prop := ∀ (σ : L2.St) (G H : Hp) (Q : Bool → Hp → Prop), Sg C G H σ ρ → (∀ b G' H' ρ', Stp C G H σ ρ G' H' ρ' → P b ρ' → Q b H') → tt σ H Q
def EvA (C : Fx) (ta : TA) (ρ : List Slot) (P : List D → List Slot → Prop) : Prop := ∀ (σ : L2.St) (G H : Hp) (Q : List V → Hp → Prop), Sg C G H σ ρ → (∀ vs ds G' H' ρ', Stp C G H σ ρ G' H' ρ' → P ds ρ' → IsL C.K G' vs ds → Q vs H') → ta σ H Q
def EvO (C : Fx) (to : TO) (ρ : List Slot) (P : Option Int → List Slot → Prop) : Prop := ∀ (σ : L2.St) (G H : Hp) (Q : Option Int → Hp → Prop), Sg C G H σ ρ → (∀ o G' H' ρ', Stp C G H σ ρ G' H' ρ' → P o ρ' → Q o H') → to σ H Q
/-- operators, calls, by data: they change nothing -/
def RD (K : PySem.W.Frag) (r : R2) (x y : D) (P : D → Prop) : Prop := ∀ (G H : Hp) (v u : V) (Q : VK), Same G H → Is K G v x → Is K G u y → (∀ z d G' H', Ext G H G' H' (fun _ => False) → P d → Is K G' z d → Q z H') → r v u H Q
def RU1 (K : PySem.W.Frag) (r : V → Hp → VK → Prop) (x : D) (P : D → Prop) : Prop := ∀ (G H : Hp) (v : V) (Q : VK), Same G H → Is K G v x → (∀ z d G' H', Ext G H G' H' (fun _ => False) → P d → Is K G' z d → Q z H') → r v H Q
def RC1 (K : PySem.W.Frag) (r : List V → Hp → VK → Prop) (xs : List D) (P : D → Prop) : Prop := ∀ (G H : Hp) (vs : List V) (Q : VK), Same G H → IsL K G vs xs → (∀ z d G' H', Ext G H G' H' (fun _ => False) → P d → Is K G' z d → Q z H') → r vs H Q

section
variable {C : Fx} {ρ : List Slot} {P : PD} {te ta tb tx : TE} {tt tu : TT} {tA tB' : TA}
theorem Ev.imp {P' : PD} (h : Ev C te ρ P) (i : ∀ d ρ', P d ρ' → P' d ρ') : Ev C te ρ P' := fun σ G H Q S q => h σ G H Q S fun v d G' H' ρ' s p => q v d G' H' ρ' s (i d ρ' p)
theorem EvT.imp {P P' : Bool → List Slot → Prop} (h : EvT C tt ρ P) (i : ∀ d ρ', P d ρ' → P' d ρ') : EvT C tt ρ P' := fun σ G H Q S q => h σ G H Q S fun d G' H' ρ' s p => q d G' H' ρ' s (i d ρ' p)
theorem ev_var {i : Nat} {d : D} (h : ρ[i]? = some (.dat d)) (k : P d ρ) : Ev C (tVar i) ρ P := fun σ G H Q S q => by
  obtain ⟨o, ho, v, rfl, hv⟩ := S.sl i _ h
  exact ⟨v, ho, q v d G H ρ (Stp.refl S) k hv⟩
theorem ev_int {i : Int} (k : P (.int i) ρ) : Ev C (tC (.int i)) ρ P := fun σ G H Q S q => q _ _ G H ρ (Stp.refl S) k (.int i)
theorem ev_str {i : Str} (k : P (.str i) ρ) : Ev C (tC (.str i)) ρ P := fun σ G H Q S q => q _ _ G H ρ (Stp.refl S) k (.str i)
theorem ev_bl {i : Bool} (k : P (.bl i) ρ) : Ev C (tC (.bl i)) ρ P := fun σ G H Q S q => q _ _ G H ρ (Stp.refl S) k (.bl i)
theorem ev_non (k : P .non ρ) : Ev C (tC .non) ρ P := fun σ G H Q S q => q _ _ G H ρ (Stp.refl S) k .non
theorem ev_val {v : V} (k : P (.val v) ρ) : Ev C (tC v) ρ P := fun σ G H Q S q => q _ _ G H ρ (Stp.refl S) k (.val v)
/-- a constant of the module's, by what it is -/
theorem ev_c {v : V} {d : D} (h : ∀ G, Is C.K G v d) (k : P d ρ) : Ev C (tC v) ρ P := fun σ G H Q S q => q _ _ G H ρ (Stp.refl S) k (h G)
theorem ev_op {r : R2} (h : Ev C ta ρ fun x ρ1 => Ev C tb ρ1 fun y ρ2 => RD C.K r x y fun d => P d ρ2) : Ev C (tOp r ta tb) ρ P := fun σ G H Q S q => by
  refine h σ G H _ S fun v x G1 H1 ρ1 s1 h1 i1 => ?_
  refine h1 σ G1 H1 _ s1.st fun u y G2 H2 ρ2 s2 h2 i2 => ?_
  refine h2 G2 H2 v u Q s2.st.le (i1.mono s2.ext.gg) i2 fun z d G3 H3 e p i3 => ?_
  exact q z d G3 H3 ρ2 ((s1.trans s2).trans (s2.st.keep e)) p i3
theorem ev_un {r : V → Hp → VK → Prop} (h : Ev C ta ρ fun x ρ1 => RU1 C.K r x fun d => P d ρ1) : Ev C (tUn r ta) ρ P := fun σ G H Q S q => by
  refine h σ G H _ S fun v x G1 H1 ρ1 s1 h1 i1 => ?_
  refine h1 G1 H1 v Q s1.st.le i1 fun z d G3 H3 e p i3 => ?_
  exact q z d G3 H3 ρ1 (s1.trans (s1.st.keep e)) p i3
theorem ev_cb {r : List V → Hp → VK → Prop} (h : EvA C tA ρ fun xs ρ1 => RC1 C.K r xs fun d => P d ρ1) : Ev C (tCB r tA) ρ P := fun σ G H Q S q => by
  refine h σ G H _ S fun v x G1 H1 ρ1 s1 h1 i1 => ?_
  refine h1 G1 H1 v Q s1.st.le i1 fun z d G3 H3 e p i3 => ?_
  exact q z d G3 H3 ρ1 (s1.trans (s1.st.keep e)) p i3
theorem ea_nil {P : List D → List Slot → Prop} (k : P [] ρ) : EvA C tNil ρ P := fun σ G H Q S q => q [] [] G H ρ (Stp.refl S) k .nil
theorem ea_cons {P : List D → List Slot → Prop} (h : Ev C ta ρ fun x ρ1 => EvA C tA ρ1 fun xs ρ2 => P (x :: xs) ρ2) : EvA C (tCons ta tA) ρ P := fun σ G H Q S q => by
  refine h σ G H _ S fun v x G1 H1 ρ1 s1 h1 i1 => ?_
  refine h1 σ G1 H1 _ s1.st fun vs xs G2 H2 ρ2 s2 h2 i2 => ?_
  exact q _ _ G2 H2 ρ2 (s1.trans s2) h2 (.cons (i1.mono s2.ext.gg) i2)
theorem ev_tup (h : EvA C tA ρ fun xs ρ1 => xs.length ≤ 100000 ∧ P (.tup xs) ρ1) : Ev C (tTup tA) ρ P := fun σ G H Q S q => by
  refine h σ G H _ S fun vs xs G1 H1 ρ1 s1 h1 i1 => ⟨?_, fun p hp => ?_⟩
  · rw [i1.length]
    exact Nat.le_trans h1.1 (by decide)
  · have e := Ext.new (F := fun _ => False) s1.st.le hp (.tup vs)
    exact q _ _ _ _ ρ1 (s1.trans (s1.st.keep e)) h1.2 (.tup (.inl (.inl upd_same)) (i1.mono e.gg))
theorem ev_lst (h : EvA C tA ρ fun xs ρ1 => xs.length ≤ 100000 ∧ P (.lst xs) ρ1) : Ev C (tLst tA) ρ P := fun σ G H Q S q => by
  refine h σ G H _ S fun vs xs G1 H1 ρ1 s1 h1 i1 => ⟨?_, fun p hp => ?_⟩
  · rw [i1.length]
    exact Nat.le_trans h1.1 (by decide)
  · have e := Ext.new (F := fun _ => False) s1.st.le hp (.lst vs)
    exact q _ _ _ _ ρ1 (s1.trans (s1.st.keep e)) h1.2 (.lst upd_same (i1.mono e.gg))
theorem ev_if (h : EvT C tt ρ fun b ρ1 => (b = true → Ev C ta ρ1 P) ∧ (b = false → Ev C tb ρ1 P)) : Ev C (tIf tt ta tb) ρ P := fun σ G H Q S q => by
  refine h σ G H _ S fun b G1 H1 ρ1 s1 h1 => ?_
  cases b with
  | true => exact iteT (h1.1 rfl σ G1 H1 Q s1.st fun v d G2 H2 ρ2 s2 p i => q v d G2 H2 ρ2 (s1.trans s2) p i)
  | false => exact iteF (h1.2 rfl σ G1 H1 Q s1.st fun v d G2 H2 ρ2 s2 p i => q v d G2 H2 ρ2 (s1.trans s2) p i)
theorem ev_andV (h : Ev C ta ρ fun x ρ1 => ∃ b, x = .bl b ∧ (b = true → Ev C tb ρ1 P) ∧ (b = false → P (.bl false) ρ1)) : Ev C (tAndV ta tb) ρ P := fun σ G H Q S q => by
  refine h σ G H _ S fun v x G1 H1 ρ1 s1 h1 i1 => ?_
  obtain ⟨b, rfl, h2, h3⟩ := h1
  cases i1
  refine ⟨b, rfl, ?_⟩
  cases b with
  | true => exact iteT (h2 rfl σ G1 H1 Q s1.st fun v d G2 H2 ρ2 s2 p i => q v d G2 H2 ρ2 (s1.trans s2) p i)
  | false => exact iteF (q _ _ G1 H1 ρ1 s1 (h3 rfl) (.bl false))
theorem ev_orV (h : Ev C ta ρ fun x ρ1 => ∃ b, x = .bl b ∧ (b = true → P (.bl true) ρ1) ∧ (b = false → Ev C tb ρ1 P)) : Ev C (tOrV ta tb) ρ P := fun σ G H Q S q => by
  refine h σ G H _ S fun v x G1 H1 ρ1 s1 h1 i1 => ?_
  obtain ⟨b, rfl, h2, h3⟩ := h1
  cases i1
  refine ⟨b, rfl, ?_⟩
  cases b with
  | true => exact iteT (q _ _ G1 H1 ρ1 s1 (h2 rfl) (.bl true))
  | false => exact iteF (h3 rfl σ G1 H1 Q s1.st fun v d G2 H2 ρ2 s2 p i => q v d G2 H2 ρ2 (s1.trans s2) p i)
theorem ev_notV (h : Ev C ta ρ fun x ρ1 => ∃ b, x = .bl b ∧ P (.bl (!b)) ρ1) : Ev C (tNotV ta) ρ P := fun σ G H Q S q => by
  refine h σ G H _ S fun v x G1 H1 ρ1 s1 h1 i1 => ?_
  obtain ⟨b, rfl, h2⟩ := h1
  cases i1
  exact ⟨b, rfl, q _ _ G1 H1 ρ1 s1 h2 (.bl _)⟩
theorem et_B {P : Bool → List Slot → Prop} (h : Ev C te ρ fun x ρ1 => ∃ b, x = .bl b ∧ P b ρ1) : EvT C (tB te) ρ P := fun σ G H Q S q => by
  refine h σ G H _ S fun v x G1 H1 ρ1 s1 h1 i1 => ?_
  obtain ⟨b, rfl, h2⟩ := h1
  cases i1
  exact ⟨b, rfl, q _ G1 H1 ρ1 s1 h2⟩
theorem et_test {P : Bool → List Slot → Prop} (h : Ev C te ρ fun x ρ1 => ∃ b, x = .bl b ∧ P b ρ1) : EvT C (tTest te) ρ P := fun σ G H Q S q => by
  refine h σ G H _ S fun v x G1 H1 ρ1 s1 h1 i1 => ?_
  obtain ⟨b, rfl, h2⟩ := h1
  cases i1
  exact ⟨b, rfl, q _ G1 H1 ρ1 s1 h2⟩
theorem et_and {P : Bool → List Slot → Prop} (h : EvT C tt ρ fun b ρ1 => (b = true → EvT C tu ρ1 P) ∧ (b = false → P false ρ1)) : EvT C (tAnd tt tu) ρ P := fun σ G H Q S q => by
  refine h σ G H _ S fun b G1 H1 ρ1 s1 h1 => ?_
  cases b with
  | true => exact iteT (h1.1 rfl σ G1 H1 Q s1.st fun c G2 H2 ρ2 s2 p => q c G2 H2 ρ2 (s1.trans s2) p)
  | false => exact iteF (q false G1 H1 ρ1 s1 (h1.2 rfl))
theorem et_or {P : Bool → List Slot → Prop} (h : EvT C tt ρ fun b ρ1 => (b = true → P true ρ1) ∧ (b = false → EvT C tu ρ1 P)) : EvT C (tOr tt tu) ρ P := fun σ G H Q S q => by
  refine h σ G H _ S fun b G1 H1 ρ1 s1 h1 => ?_
  cases b with
  | true => exact iteT (q true G1 H1 ρ1 s1 (h1.1 rfl))
  | false => exact iteF (h1.2 rfl σ G1 H1 Q s1.st fun c G2 H2 ρ2 s2 p => q c G2 H2 ρ2 (s1.trans s2) p)
theorem et_not {P : Bool → List Slot → Prop} (h : EvT C tt ρ fun b ρ1 => P (!b) ρ1) : EvT C (tNot tt) ρ P := fun σ G H Q S q =>
  h σ G H _ S fun b G1 H1 ρ1 s1 h1 => q (!b) G1 H1 ρ1 s1 h1
theorem et_yes {P : Bool → List Slot → Prop} (h : P true ρ) : EvT C tYes ρ P := fun σ G H Q S q => q true G H ρ (Stp.refl S) h
end
end DL
namespace DL
open PySem PySem.Spec PyProof.Rows L2
variable [TabT]

section
variable {C : Fx} {G H G' H' G1 H1 : Hp} {σ σ' : L2.St} {ρ ρ' ρ1 : List Slot}
/-! ### slots set -/
theorem Mt.ne {i j : Nat} {a : Addr} {o : Option V} {s : Slot} (h : Mt (σ.set i o) (ρ.set i s) j a) (n : j ≠ i) : Mt σ ρ j a := by
  obtain ⟨h1, r, h2, hm⟩ := h
  rw [List.getElem?_set_ne (Ne.symm n)] at h1 h2
  exact ⟨h1, r, h2, hm⟩
theorem Mt.lt {i : Nat} {a : Addr} (h : Mt σ ρ i a) : i < σ.length := (List.getElem?_eq_some_iff.mp h.1).1
theorem Mt.slot {i : Nat} {a : Addr} (h : Mt σ ρ i a) : ∃ s, ρ[i]? = some s ∧ s.mu = true := h.2
/-- slot i holds data now -/
theorem Sg.setD {i : Nat} {v : V} {d : D} (S : Sg C G H σ ρ) (h : Is C.K G v d) : Sg C G H (σ.set i (some v)) (ρ.set i (.dat d)) := by
  refine ⟨S.ext, by rw [List.length_set, List.length_set, S.len], fun j s hs => ?_, fun j k a h1 h2 => ?_⟩
  · by_cases hj : j = i
    · subst hj
      have hl : j < ρ.length := by
        have := (List.getElem?_eq_some_iff.mp hs).1
        rwa [List.length_set] at this
      rw [List.getElem?_set_self hl] at hs
      have hs := Option.some.inj hs
      subst hs
      exact ⟨some v, List.getElem?_set_self (by rw [S.len]; exact hl), v, rfl, h⟩
    · rw [List.getElem?_set_ne (Ne.symm hj)] at hs ⊢
      exact S.sl j s hs
  · have nd : ∀ {j : Nat} {a : Addr}, Mt (σ.set i (some v)) (ρ.set i (.dat d)) j a → j ≠ i := fun {j a} h e => by
      subst e
      have hl : j < ρ.length := by
        have := h.lt
        rwa [List.length_set, S.len] at this
      obtain ⟨r, h, hm⟩ := h.slot
      rw [List.getElem?_set_self hl] at h
      cases h
      cases hm
    exact S.dis j k a (h1.ne (nd h1)) (h2.ne (nd h2))
/-- slot i is forgotten -/
theorem Sg.setU {i : Nat} {o : Option V} (S : Sg C G H σ ρ) : Sg C G H (σ.set i o) (ρ.set i .un) := by
  refine ⟨S.ext, by rw [List.length_set, List.length_set, S.len], fun j s hs => ?_, fun j k a h1 h2 => ?_⟩
  · by_cases hj : j = i
    · subst hj
      have hl : j < ρ.length := by
        have := (List.getElem?_eq_some_iff.mp hs).1
        rwa [List.length_set] at this
      rw [List.getElem?_set_self hl] at hs
      have hs := Option.some.inj hs
      subst hs
      exact ⟨o, List.getElem?_set_self (by rw [S.len]; exact hl), trivial⟩
    · rw [List.getElem?_set_ne (Ne.symm hj)] at hs ⊢
      exact S.sl j s hs
  · have nd : ∀ {j : Nat} {a : Addr}, Mt (σ.set i o) (ρ.set i .un) j a → j ≠ i := fun {j a} h e => by
      subst e
      have hl : j < ρ.length := by
        have := h.lt
        rwa [List.length_set, S.len] at this
      obtain ⟨r, h, hm⟩ := h.slot
      rw [List.getElem?_set_self hl] at h
      cases h
      cases hm
    exact S.dis j k a (h1.ne (nd h1)) (h2.ne (nd h2))
/-- slot i holds a list of one's own: nobody else knows it -/
theorem Sg.setO {i : Nat} {p : Addr} {vs : List V} {ds : List D} (S : Sg C G H σ ρ) (g : G p = none) (h : H p = some (.lst vs)) (t : IsL C.K G vs ds) (h0 : C.H0 p = none) (nf : ∀ j, j ≠ i → ¬ Mt σ ρ j p) : Sg C G H (σ.set i (some (.ref p))) (ρ.set i (.own ds)) := by
  refine ⟨S.ext, by rw [List.length_set, List.length_set, S.len], fun j s hs => ?_, fun j k a h1 h2 => ?_⟩
  · by_cases hj : j = i
    · subst hj
      have hl : j < ρ.length := by
        have := (List.getElem?_eq_some_iff.mp hs).1
        rwa [List.length_set] at this
      rw [List.getElem?_set_self hl] at hs
      have hs := Option.some.inj hs
      subst hs
      exact ⟨_, List.getElem?_set_self (by rw [S.len]; exact hl), p, vs, rfl, g, h, t, h0⟩
    · rw [List.getElem?_set_ne (Ne.symm hj)] at hs ⊢
      exact S.sl j s hs
  · have key : ∀ {j : Nat} {a : Addr}, Mt (σ.set i (some (.ref p))) (ρ.set i (.own ds)) j a → j = i → a = p := fun {j a} h e => by
      subst e
      have h1 := h.1
      have hl : j < σ.length := by
        have := h.lt
        rwa [List.length_set] at this
      rw [List.getElem?_set_self hl] at h1
      cases h1
      rfl
    by_cases hj : j = i
    · by_cases hk : k = i
      · rw [hj, hk]
      · have e := key h1 hj
        subst e
        exact absurd (h2.ne hk) (nf k hk)
    · by_cases hk : k = i
      · have e := key h2 hk
        subst e
        exact absurd (h1.ne hj) (nf j hj)
      · exact S.dis j k a (h1.ne hj) (h2.ne hk)
/-- the own list at slot i is frozen -/
theorem Sg.freeze {i : Nat} {ds : List D} (S : Sg C G H σ ρ) (hi : ρ[i]? = some (.own ds)) : ∃ p vs, σ[i]? = some (some (.ref p)) ∧ H p = some (.lst vs) ∧ G p = none ∧ IsL C.K G vs ds ∧ Same G (upd G p (.lst vs)) ∧ Is C.K (upd G p (.lst vs)) (.ref p) (.lst ds) ∧ Stp C G H σ ρ (upd G p (.lst vs)) H (ρ.set i (.dat (.lst ds))) := by
  obtain ⟨o, ho, p, vs, rfl, h1, h2, h3, h4⟩ := S.sl i _ hi
  have mp : Mt σ ρ i p := ⟨ho, _, hi, rfl⟩
  have sg : Same G (upd G p (.lst vs)) := fun b u e => by
    rw [upd_ne (ne_of_none e h1)]
    exact e
  have sh : Same (upd G p (.lst vs)) H := fun b u e => by
    by_cases hb : b = p
    · subst hb
      rw [upd_same] at e
      rw [h2]
      exact e
    · rw [upd_ne hb] at e
      exact S.le b u e
  have ep : Is C.K (upd G p (.lst vs)) (.ref p) (.lst ds) := .lst upd_same (h3.mono sg)
  have hl : i < ρ.length := (List.getElem?_eq_some_iff.mp hi).1
  have back : ∀ {j : Nat} {a : Addr}, Mt σ (ρ.set i (.dat (.lst ds))) j a → j ≠ i ∧ Mt σ ρ j a := fun {j a} h => by
    have hj : j ≠ i := fun e => by
      subst e
      obtain ⟨r, q, hm⟩ := h.slot
      rw [List.getElem?_set_self hl] at q
      cases q
      cases hm
    refine ⟨hj, h.1, ?_⟩
    obtain ⟨r, q, hm⟩ := h.slot
    rw [List.getElem?_set_ne (Ne.symm hj)] at q
    exact ⟨r, q, hm⟩
  have ex : Ext G H (upd G p (.lst vs)) H (Fp σ ρ) := ⟨sg, sh, fun b o e _ _ => e, fun b o e q n => by
    have hb : b ≠ p := fun z => n (z ▸ ⟨i, mp⟩)
    rw [upd_ne hb]
    exact q, fun b o e => ⟨o, e⟩, fun t => t, fun g => g.upd fun _ z => nomatch z⟩
  refine ⟨p, vs, ho, h2, h1, h3, sg, ep, ex, ⟨S.ext.trans ex fun x u hx hf => ?_, by rw [List.length_set, S.len], fun j s hs => ?_, fun j k a q1 q2 => S.dis j k a (back q1).2 (back q2).2⟩, fun a h => ?_⟩
  · obtain ⟨_, _, hf⟩ := S.fp_some hf
    rcases hf with hf | hf
    · exact hf
    · rw [hf] at hx
      cases hx
  · by_cases hj : j = i
    · subst hj
      rw [List.getElem?_set_self hl] at hs
      have hs := Option.some.inj hs
      subst hs
      exact ⟨_, ho, _, rfl, ep⟩
    · rw [List.getElem?_set_ne (Ne.symm hj)] at hs
      obtain ⟨o', ho', q⟩ := S.sl j s hs
      refine ⟨o', ho', q.move sg fun hm a u e h nt g => ?_⟩
      have np : a ≠ p := fun z => by
        rw [e, z] at ho'
        exact hj (S.dis j i p ⟨ho', _, hs, hm⟩ mp)
      exact ⟨h, by rw [upd_ne np]; exact g⟩
  · obtain ⟨j, h⟩ := h
    exact ⟨j, (back h).2⟩
end

/-! ### statements -/
structure Po where
  nx : List Slot → Prop
  rt : D → List Slot → Prop
  bk : List Slot → Prop := fun _ => False
  ct : List Slot → Prop := fun _ => False
def Xs (C : Fx) (ts : TS) (ρ : List Slot) (po : Po) : Prop := ∀ (σ : L2.St) (G H : Hp) (Dn : Ends), Sg C G H σ ρ →
  (∀ σ' G' H' ρ', Sg C G' H' σ' ρ' → Same G G' → po.nx ρ' → Dn.nx σ' H') → (∀ v d σ' G' H' ρ', Sg C G' H' σ' ρ' → Is C.K G' v d → po.rt d ρ' → Dn.rt v H') →
  (∀ σ' G' H' ρ', Sg C G' H' σ' ρ' → Same G G' → po.bk ρ' → Dn.bk σ' H') → (∀ σ' G' H' ρ', Sg C G' H' σ' ρ' → Same G G' → po.ct ρ' → Dn.ct σ' H') → ts Dn σ H
/-- a target that stores into the slots is alone -/
def Eg (C : Fx) (g : TG) (is : List Nat) (d : D) (ρ : List Slot) (P : List Slot → Prop) : Prop := ∀ (σ : L2.St) (G H : Hp) (v : V) (Q : L2.St → Hp → Prop), Sg C G H σ ρ → Is C.K G v d →
  (∀ σ' ρ', Sg C G H σ' ρ' → P ρ' → (∀ vs : List Nat, (∀ i ∈ is, i ∈ vs) → wipe σ' vs = wipe σ vs) → (∀ j a, Mt σ' ρ' j a → Mt σ ρ j a) → Q σ' H) → g v σ H Q
def Egs (C : Fx) (g : TGs) (is : List Nat) (ds : List D) (ρ : List Slot) (P : List Slot → Prop) : Prop := ∀ (σ : L2.St) (G H : Hp) (vs : List V) (Q : L2.St → Hp → Prop), Sg C G H σ ρ → IsL C.K G vs ds →
  (∀ σ' ρ', Sg C G H σ' ρ' → P ρ' → (∀ ws : List Nat, (∀ i ∈ is, i ∈ ws) → wipe σ' ws = wipe σ ws) → (∀ j a, Mt σ' ρ' j a → Mt σ ρ j a) → Q σ' H) → g vs σ H Q
theorem wipe_set {x : Option V} : ∀ {vs : List Nat} {σ : L2.St} {i : Nat}, i ∈ vs → wipe (σ.set i x) vs = wipe σ vs := by
  have key : ∀ (vs : List Nat) (σ : L2.St) (i : Nat), wipe (σ.set i x) vs = if i ∈ vs then wipe σ vs else (wipe σ vs).set i x := by
    intro vs
    induction vs with
    | nil =>
      intro σ i
      simp [wipe]
    | cons v vs ih =>
      intro σ i
      unfold wipe
      rw [ih]
      by_cases h : i ∈ vs
      · simp [h]
      · by_cases hv : i = v
        · subst hv
          simp [h]
        · have e : i ∉ v :: vs := by simp [h, hv]
          rw [if_neg h, if_neg e]
          exact List.set_comm _ _ (fun z => hv z)
  intro vs σ i h
  rw [key, if_pos h]
theorem mt_setD {σ : L2.St} {ρ : List Slot} {i j : Nat} {o : Option V} {d : D} {a : Addr} (hl : σ.length = ρ.length) (h : Mt (σ.set i o) (ρ.set i (.dat d)) j a) : Mt σ ρ j a := by
  refine h.ne fun e => ?_
  subst e
  have hl : j < ρ.length := by
    have := h.lt
    rwa [List.length_set, hl] at this
  obtain ⟨r, h, hm⟩ := h.slot
  rw [List.getElem?_set_self hl] at h
  cases h
  cases hm

section
variable {C : Fx} {ρ : List Slot} {P : List Slot → Prop} {te ta tb : TE} {tc : TT} {tA : TA} {t u : TS} {po : Po} {i j : Nat}
theorem Xs.imp {po' : Po} (h : Xs C t ρ po) (n : ∀ ρ, po.nx ρ → po'.nx ρ) (r : ∀ d ρ, po.rt d ρ → po'.rt d ρ) (b : ∀ ρ, po.bk ρ → po'.bk ρ) (c : ∀ ρ, po.ct ρ → po'.ct ρ) : Xs C t ρ po' := fun σ G H Dn S hn hr hb hc =>
  h σ G H Dn S (fun σ' G' H' ρ' s e p => hn σ' G' H' ρ' s e (n _ p)) (fun v d σ' G' H' ρ' s k p => hr v d σ' G' H' ρ' s k (r _ _ p)) (fun σ' G' H' ρ' s e p => hb σ' G' H' ρ' s e (b _ p)) fun σ' G' H' ρ' s e p => hc σ' G' H' ρ' s e (c _ p)
theorem xs_seq (h : Xs C t ρ { po with nx := fun ρ' => Xs C u ρ' po }) : Xs C (tSeq t u) ρ po := fun σ G H Dn S hn hr hb hc =>
  h σ G H { Dn with nx := u Dn } S (fun σ' G' H' ρ' s e q => q σ' G' H' Dn s (fun σ2 G2 H2 ρ2 s2 e2 => hn σ2 G2 H2 ρ2 s2 (e.trans e2)) hr (fun σ2 G2 H2 ρ2 s2 e2 => hb σ2 G2 H2 ρ2 s2 (e.trans e2)) fun σ2 G2 H2 ρ2 s2 e2 => hc σ2 G2 H2 ρ2 s2 (e.trans e2)) hr hb hc
theorem xs_next (h : po.nx ρ) : Xs C tNext ρ po := fun σ G H Dn S hn hr hb hc => hn σ G H ρ S (Same.refl G) h
theorem xs_break (h : po.bk ρ) : Xs C tBreak ρ po := fun σ G H Dn S hn hr hb hc => hb σ G H ρ S (Same.refl G) h
theorem xs_cont (h : po.ct ρ) : Xs C tCont ρ po := fun σ G H Dn S hn hr hb hc => hc σ G H ρ S (Same.refl G) h
theorem xs_ret (h : Ev C te ρ fun d ρ' => po.rt d ρ') : Xs C (tRet te) ρ po := fun σ G H Dn S hn hr hb hc =>
  h σ G H _ S fun v d G' H' ρ' s p k => hr v d σ G' H' ρ' s.st k p
theorem xs_drop (h : Ev C te ρ fun d ρ' => po.nx ρ') : Xs C (tDrop te) ρ po := fun σ G H Dn S hn hr hb hc =>
  h σ G H _ S fun v d G' H' ρ' s p k => hn σ G' H' ρ' s.st s.ext.gg p
theorem xs_if (h : EvT C tc ρ fun b ρ' => (b = true → Xs C t ρ' po) ∧ (b = false → Xs C u ρ' po)) : Xs C (tIfS tc t u) ρ po := fun σ G H Dn S hn hr hb hc => by
  refine h σ G H _ S fun b G1 H1 ρ1 s1 h1 => ?_
  cases b with
  | true => exact iteT (h1.1 rfl σ G1 H1 Dn s1.st (fun σ2 G2 H2 ρ2 s2 e2 => hn σ2 G2 H2 ρ2 s2 (s1.ext.gg.trans e2)) hr (fun σ2 G2 H2 ρ2 s2 e2 => hb σ2 G2 H2 ρ2 s2 (s1.ext.gg.trans e2)) fun σ2 G2 H2 ρ2 s2 e2 => hc σ2 G2 H2 ρ2 s2 (s1.ext.gg.trans e2))
  | false => exact iteF (h1.2 rfl σ G1 H1 Dn s1.st (fun σ2 G2 H2 ρ2 s2 e2 => hn σ2 G2 H2 ρ2 s2 (s1.ext.gg.trans e2)) hr (fun σ2 G2 H2 ρ2 s2 e2 => hb σ2 G2 H2 ρ2 s2 (s1.ext.gg.trans e2)) fun σ2 G2 H2 ρ2 s2 e2 => hc σ2 G2 H2 ρ2 s2 (s1.ext.gg.trans e2))
theorem eg_name {d : D} (h : P (ρ.set i (.dat d))) : Eg C (gName i) [i] d ρ P := fun σ G H v Q S k q =>
  q _ _ (S.setD k) h (fun vs hv => wipe_set (hv i (by simp))) fun j a m => mt_setD S.len m
theorem egs_nil (h : P ρ) : Egs C gNil [] [] ρ P := fun σ G H vs Q S k q => by
  cases k
  exact ⟨rfl, q σ ρ S h (fun _ _ => rfl) fun _ _ m => m⟩
theorem egs_cons {g : TG} {gs : TGs} {is js : List Nat} {d : D} {ds : List D} (h : Eg C g is d ρ fun ρ1 => Egs C gs js ds ρ1 P) : Egs C (gCons g gs) (is ++ js) (d :: ds) ρ P := fun σ G H vs Q S k q => by
  cases k with
  | cons k1 k2 =>
    refine ⟨_, _, rfl, h σ G H _ _ S k1 fun σ1 ρ1 S1 p1 w1 m1 => ?_⟩
    exact p1 σ1 G H _ _ S1 k2 fun σ2 ρ2 S2 p2 w2 m2 => q σ2 ρ2 S2 p2 (fun ws hw => (w2 ws fun i hi => hw i (by simp [hi])).trans (w1 ws fun i hi => hw i (by simp [hi]))) fun j a m => m1 j a (m2 j a m)
theorem eg_tup {n : Nat} {gs : TGs} {is : List Nat} {ds : List D} (hn : ds.length = n) (h : Egs C gs is ds ρ P) : Eg C (gTup C.K n gs) is (.tup ds) ρ P := fun σ G H v Q S k q => by
  cases k with
  | tup k1 k2 => exact ⟨_, _, rfl, seqT_mono S.le k1, by rw [k2.length, hn], h σ G H _ Q S k2 q⟩
theorem xs_asg {g : TG} {is : List Nat} (h : Ev C te ρ fun d ρ1 => Eg C g is d ρ1 po.nx) : Xs C (tAsg te g) ρ po := fun σ G H Dn S hn hr hb hc =>
  h σ G H _ S fun v d G1 H1 ρ1 s1 p1 k1 => p1 σ G1 H1 v _ s1.st k1 fun σ2 ρ2 S2 p2 _ _ => hn σ2 G1 H1 ρ2 S2 s1.ext.gg p2
theorem xs_set (h : Ev C te ρ fun d ρ1 => po.nx (ρ1.set i (.dat d))) : Xs C (tAsg te (gName i)) ρ po := xs_asg (h.imp fun _ _ p => eg_name p)

/-! ### new lists -/
/-- te makes a new list that nobody knows yet -/
def EvN (C : Fx) (te : TE) (ρ : List Slot) (P : List D → List Slot → Prop) : Prop := ∀ (σ : L2.St) (G H : Hp) (Q : VK), Sg C G H σ ρ → (∀ p vs ds G' H' ρ', Stp C G H σ ρ G' H' ρ' → P ds ρ' → H p = none → G' p = none → H' p = some (.lst vs) → IsL C.K G' vs ds → Q (.ref p) H') → te σ H Q
theorem nomt {G H G' H' : Hp} {σ : L2.St} {ρ ρ' : List Slot} (S : Sg C G H σ ρ) (s : Stp C G H σ ρ G' H' ρ') {p : Addr} (n : H p = none) {j : Nat} (m : Mt σ ρ' j p) : False := by
  obtain ⟨_, ⟨xs, e⟩, _⟩ := S.fp_some (s.sub p ⟨j, m⟩)
  rw [n] at e
  cases e
theorem h0_none {G H : Hp} {σ : L2.St} (S : Sg C G H σ ρ) {p : Addr} (n : H p = none) : C.H0 p = none := by
  cases q : C.H0 p with
  | none => rfl
  | some o =>
    obtain ⟨u, e⟩ := S.ext.th p o q
    rw [n] at e
    cases e
theorem xs_own (h : EvN C te ρ fun ds ρ1 => po.nx (ρ1.set i (.own ds))) : Xs C (tAsg te (gName i)) ρ po := fun σ G H Dn S hn hr hb hc =>
  h σ G H _ S fun p vs ds G1 H1 ρ1 s1 p1 n g1 h1 k1 => hn _ G1 H1 _ (s1.st.setO g1 h1 k1 (h0_none S n) fun j _ m => nomt S s1 n m) s1.ext.gg p1
/-- a new list, frozen at once -/
theorem EvN.ev {P : PD} (h : EvN C te ρ fun ds ρ1 => P (.lst ds) ρ1) : Ev C te ρ P := fun σ G H Q S q =>
  h σ G H _ S fun p vs ds G1 H1 ρ1 s1 p1 n g1 h1 k1 => by
    have sg : Same G1 (upd G1 p (.lst vs)) := fun b u e => by
      rw [upd_ne (ne_of_none e g1)]
      exact e
    have sh : Same (upd G1 p (.lst vs)) H1 := fun b u e => by
      by_cases hb : b = p
      · subst hb
        rw [upd_same] at e
        rw [h1]
        exact e
      · rw [upd_ne hb] at e
        exact s1.st.le b u e
    have nm : ∀ b, Fp σ ρ1 b → b ≠ p := fun b ⟨j, m⟩ e => nomt S s1 n (e ▸ m)
    have s2 : Stp C G H σ ρ (upd G1 p (.lst vs)) H1 ρ1 := by
      refine ⟨⟨s1.ext.gg.trans sg, sh, s1.ext.fr, fun b o e g f => ?_, s1.ext.th, s1.ext.tt, fun g => (s1.ext.nt g).upd fun _ z => nomatch z⟩, ⟨⟨s1.st.ext.gg.trans sg, sh, s1.st.ext.fr, fun b o e g f => ?_, s1.st.ext.th, s1.st.ext.tt, fun g => (s1.st.ext.nt g).upd fun _ z => nomatch z⟩, s1.st.len, fun j s hs => ?_, s1.st.dis⟩, s1.sub⟩
      · rw [upd_ne (ne_of_none e n)]
        exact s1.ext.nf b o e g f
      · rw [upd_ne (ne_of_none e (h0_none S n))]
        exact s1.st.ext.nf b o e g f
      · obtain ⟨o, ho, q⟩ := s1.st.sl j s hs
        refine ⟨o, ho, q.move sg fun hm a u e h nt g => ⟨h, ?_⟩⟩
        subst e
        rw [upd_ne (nm a ⟨j, ho, _, hs, hm⟩)]
        exact g
    exact q _ _ _ _ _ s2 p1 (.lst upd_same (k1.mono sg))
theorem en_lst {P : List D → List Slot → Prop} (h : EvA C tA ρ fun xs ρ1 => xs.length ≤ 100000 ∧ P xs ρ1) : EvN C (tLst tA) ρ P := fun σ G H Q S q => by
  refine h σ G H _ S fun vs xs G1 H1 ρ1 s1 h1 i1 => ⟨?_, fun p hp => ?_⟩
  · rw [i1.length]
    exact Nat.le_trans h1.1 (by decide)
  · have n0 : H p = none := by
      cases z : H p with
      | none => rfl
      | some o =>
        obtain ⟨u, e⟩ := s1.ext.th p o z
        rw [hp] at e
        cases e
    have e := Ext.newM (F := fun _ => False) s1.st.le hp (.lst vs)
    exact q p vs xs G1 _ ρ1 (s1.trans (s1.st.keep e)) h1.2 n0 (s1.st.le.free hp) upd_same i1
/-- an own list is handed on for good -/
theorem ev_take {P : PD} {ds : List D} (hi : ρ[i]? = some (.own ds)) (h : Ev C te (ρ.set i (.dat (.lst ds))) P) : Ev C te ρ P := fun σ G H Q S q => by
  obtain ⟨p, vs, _, _, _, _, _, _, s⟩ := S.freeze hi
  exact h σ _ H Q s.st fun v d G' H' ρ' s' => q v d G' H' ρ' (s.trans s')
theorem et_take {P : Bool → List Slot → Prop} {ds : List D} (hi : ρ[i]? = some (.own ds)) (h : EvT C tc (ρ.set i (.dat (.lst ds))) P) : EvT C tc ρ P := fun σ G H Q S q => by
  obtain ⟨p, vs, _, _, _, _, _, _, s⟩ := S.freeze hi
  exact h σ _ H Q s.st fun b G' H' ρ' s' => q b G' H' ρ' (s.trans s')
theorem xs_take {ds : List D} (hi : ρ[i]? = some (.own ds)) (h : Xs C t (ρ.set i (.dat (.lst ds))) po) : Xs C t ρ po := fun σ G H Dn S hn hr hb hc => by
  obtain ⟨p, vs, _, _, _, _, _, _, s⟩ := S.freeze hi
  exact h σ _ H Dn s.st (fun σ2 G2 H2 ρ2 s2 e2 => hn σ2 G2 H2 ρ2 s2 (s.ext.gg.trans e2)) hr (fun σ2 G2 H2 ρ2 s2 e2 => hb σ2 G2 H2 ρ2 s2 (s.ext.gg.trans e2)) fun σ2 G2 H2 ρ2 s2 e2 => hc σ2 G2 H2 ρ2 s2 (s.ext.gg.trans e2)
def scalD : D → Bool
  | .non => true
  | .bl _ => true
  | .int _ => true
  | .str _ => true
  | _ => false
theorem Is.scal {K : PySem.W.Frag} {G G' : Hp} {v : V} {d : D} (h : Is K G v d) (s : scalD d = true) : Is K G' v d := by
  cases h with
  | non => exact .non
  | bl b => exact .bl b
  | int i => exact .int i
  | str x => exact .str x
  | val v => cases s
  | tup _ _ => cases s
  | lst _ _ => cases s
  | dic _ _ => cases s
  | dct _ _ => cases s
  | ins _ _ => cases s
  | exc _ _ _ => cases s
  | scr _ => cases s
/-- te only looks -/
def Er (C : Fx) (te : TE) (ρ : List Slot) (P : D → Prop) : Prop := ∀ (σ : L2.St) (G H : Hp) (Q : VK), Sg C G H σ ρ → (∀ v d G' H', Ext G H G' H' (fun _ => False) → P d → Is C.K G' v d → Q v H') → te σ H Q
def ErA (C : Fx) (ta : TA) (ρ : List Slot) (P : List D → Prop) : Prop := ∀ (σ : L2.St) (G H : Hp) (Q : List V → Hp → Prop), Sg C G H σ ρ → (∀ vs ds G' H', Ext G H G' H' (fun _ => False) → P ds → IsL C.K G' vs ds → Q vs H') → ta σ H Q
theorem Er.ev {P : PD} (h : Er C te ρ fun d => P d ρ) : Ev C te ρ P := fun σ G H Q S q => h σ G H Q S fun v d G' H' e p k => q v d G' H' ρ (S.keep e) p k
section
variable {P : D → Prop}
theorem er_var {d : D} (h : ρ[i]? = some (.dat d)) (k : P d) : Er C (tVar i) ρ P := fun σ G H Q S q => by
  obtain ⟨o, ho, v, rfl, hv⟩ := S.sl i _ h
  exact ⟨v, ho, q v d G H (Ext.refl S.le) k hv⟩
theorem er_int {i : Int} (k : P (.int i)) : Er C (tC (.int i)) ρ P := fun σ G H Q S q => q _ _ G H (Ext.refl S.le) k (.int i)
theorem er_str {i : Str} (k : P (.str i)) : Er C (tC (.str i)) ρ P := fun σ G H Q S q => q _ _ G H (Ext.refl S.le) k (.str i)
theorem er_bl {i : Bool} (k : P (.bl i)) : Er C (tC (.bl i)) ρ P := fun σ G H Q S q => q _ _ G H (Ext.refl S.le) k (.bl i)
theorem er_non (k : P .non) : Er C (tC .non) ρ P := fun σ G H Q S q => q _ _ G H (Ext.refl S.le) k .non
theorem er_op {r : R2} (h : Er C ta ρ fun x => Er C tb ρ fun y => RD C.K r x y P) : Er C (tOp r ta tb) ρ P := fun σ G H Q S q => by
  refine h σ G H _ S fun v x G1 H1 e1 h1 i1 => ?_
  refine h1 σ G1 H1 _ (S.keep e1).st fun u y G2 H2 e2 h2 i2 => ?_
  refine h2 G2 H2 v u Q e2.gh (i1.mono e2.gg) i2 fun z d G3 H3 e3 p i3 => ?_
  exact q z d G3 H3 ((e1.trans e2 fun _ _ _ h => h).trans e3 fun _ _ _ h => h) p i3
theorem er_cb {r : List V → Hp → VK → Prop} (h : ErA C tA ρ fun xs => RC1 C.K r xs P) : Er C (tCB r tA) ρ P := fun σ G H Q S q => by
  refine h σ G H _ S fun v x G1 H1 e1 h1 i1 => ?_
  refine h1 G1 H1 v Q e1.gh i1 fun z d G3 H3 e3 p i3 => ?_
  exact q z d G3 H3 (e1.trans e3 fun _ _ _ h => h) p i3
end
theorem era_nil {P : List D → Prop} (k : P []) : ErA C tNil ρ P := fun σ G H Q S q => q [] [] G H (Ext.refl S.le) k .nil
theorem era_cons {P : List D → Prop} (h : Er C ta ρ fun x => ErA C tA ρ fun xs => P (x :: xs)) : ErA C (tCons ta tA) ρ P := fun σ G H Q S q => by
  refine h σ G H _ S fun v x G1 H1 e1 h1 i1 => ?_
  refine h1 σ G1 H1 _ (S.keep e1).st fun vs xs G2 H2 e2 h2 i2 => ?_
  exact q _ _ G2 H2 (e1.trans e2 fun _ _ _ h => h) h2 (.cons (i1.mono e2.gg) i2)
/-- a look at an own list that tells a plain value -/
theorem er_thaw {P : D → Prop} {ds : List D} (hi : ρ[i]? = some (.own ds)) (h : Er C te (ρ.set i (.dat (.lst ds))) fun d => scalD d = true ∧ P d) : Er C te ρ P := fun σ G H Q S q => by
  obtain ⟨p, vs, ho, hp, gp, _, sg, _, s⟩ := S.freeze hi
  refine h σ _ H Q s.st fun v d G' H' e pd k => q v d G H' ⟨Same.refl G, fun b u g => e.gh _ _ (e.gg _ _ (sg b u g)), e.fr, fun b o _ g _ => g, e.th, e.tt, fun g => g⟩ pd.2 (k.scal pd.1)
theorem ev_thaw {P : PD} {ds : List D} (hi : ρ[i]? = some (.own ds)) (h : Er C te (ρ.set i (.dat (.lst ds))) fun d => scalD d = true ∧ P d ρ) : Ev C te ρ P := Er.ev (er_thaw hi h)
/-- an item of an own list -/
theorem er_item {P : D → Prop} {ds : List D} {d : D} {tb : TE} {K' : PySem.W.Frag} (hK : K' = C.K) (hi : ρ[i]? = some (.own ds)) (h : Er C tb ρ fun x => ∃ n, x = .int n ∧ ∃ k : Nat, n = (k : Int) ∧ ds[k]? = some d ∧ P d) : Er C (tOp (rIxL K') (tVar i) tb) ρ P := fun σ G H Q S q => by
  subst hK
  obtain ⟨o, ho, p, vs, rfl, h1, h2, h3, h4⟩ := S.sl i _ hi
  refine ⟨_, ho, h σ G H _ S fun v x G1 H1 e1 k1 i1 => ?_⟩
  obtain ⟨n, rfl, k, rfl, k2, k3⟩ := k1
  cases i1
  obtain ⟨u, g1, g2⟩ := (h3.mono e1.gg).get k2
  exact ⟨p, vs, _, u, rfl, rfl, .inl (.inl (e1.fr _ _ h2 (fun _ z => nomatch z) (fun z => z))), atI_nat g1, q u d G1 H1 e1 k3 g2⟩
/-- the own list at i as an address -/
theorem Sg.own {G H : Hp} {σ : L2.St} {ds : List D} (S : Sg C G H σ ρ) (hi : ρ[i]? = some (.own ds)) : ∃ p vs, σ[i]? = some (some (.ref p)) ∧ G p = none ∧ H p = some (.lst vs) ∧ IsL C.K G vs ds ∧ C.H0 p = none ∧ Mt σ ρ i p := by
  obtain ⟨o, ho, p, vs, rfl, h1, h2, h3, h4⟩ := S.sl i _ hi
  exact ⟨p, vs, ho, h1, h2, h3, h4, ho, _, hi, rfl⟩
/-- what slot i may change is changed -/
theorem Sg.poke1 {G H : Hp} {σ : L2.St} {r r' : Slot} {o' : HO} (S : Sg C G H σ ρ) (hi : ρ[i]? = some r) (hm : r.mu = true) {p : Addr} (ho : σ[i]? = some (some (.ref p))) (hm' : r'.mu = true) (q' : SlotOk C G (upd H p o') (some (.ref p)) r') : Stp C G H σ ρ G (upd H p o') (ρ.set i r') := by
  have hl : i < ρ.length := (List.getElem?_eq_some_iff.mp hi).1
  obtain ⟨o, ho', q⟩ := S.sl i _ hi
  obtain ⟨p', u0, e, h1, h2, nt, nx, h4⟩ := q.at_ hm
  rw [ho] at ho'
  have e := (Option.some.inj ho').trans e
  cases e
  have mp : Mt σ ρ i p := ⟨ho, _, hi, hm⟩
  have gh : Same G (upd H p o') := fun b u e => by
    rw [upd_ne (ne_of_none e h1)]
    exact S.le b u e
  have ex : Ext G H G (upd H p o') (Fp σ ρ) := ⟨Same.refl G, gh, fun b o e _ f => by
    have nb : b ≠ p := fun z => by
      subst z
      exact f ⟨i, mp⟩
    rw [upd_ne nb]
    exact e, fun b o e g f => g, fun b o e => by
    by_cases hb : b = p
    · exact ⟨_, by rw [hb, upd_same]⟩
    · exact ⟨o, by rw [upd_ne hb]; exact e⟩, fun t => tabs_upd h2 nt nx t, fun g => g⟩
  have mt : ∀ {j : Nat} {a : Addr}, Mt σ (ρ.set i r') j a → Mt σ ρ j a := fun {j a} m => by
    by_cases hj : j = i
    · subst hj
      exact ⟨m.1, _, hi, hm⟩
    · refine ⟨m.1, ?_⟩
      obtain ⟨s, e, hs⟩ := m.slot
      rw [List.getElem?_set_ne (Ne.symm hj)] at e
      exact ⟨s, e, hs⟩
  refine ⟨ex, ⟨S.ext.trans ex fun x u hx hf => ?_, by rw [List.length_set, S.len], fun j s hs => ?_, fun j k a q1 q2 => S.dis j k a (mt q1) (mt q2)⟩, fun a ⟨j, m⟩ => ⟨j, mt m⟩⟩
  · obtain ⟨_, _, hf⟩ := S.fp_some hf
    rcases hf with hf | hf
    · exact hf
    · rw [hf] at hx
      cases hx
  · by_cases hj : j = i
    · subst hj
      rw [List.getElem?_set_self hl] at hs
      cases hs
      exact ⟨_, ho, q'⟩
    · rw [List.getElem?_set_ne (Ne.symm hj)] at hs
      obtain ⟨o, ho2, q⟩ := S.sl j s hs
      refine ⟨o, ho2, q.move (Same.refl G) fun hs' a u e h nt g => ⟨?_, g⟩⟩
      subst e
      have na : a ≠ p := fun e => hj (S.dis j i a ⟨ho2, _, hs, hs'⟩ (e ▸ mp))
      rw [upd_ne na]
      exact h
/-- the own list at i is written -/
theorem Sg.put {G H : Hp} {σ : L2.St} {ds es : List D} (S : Sg C G H σ ρ) (hi : ρ[i]? = some (.own ds)) {p : Addr} {us : List V} (ho : σ[i]? = some (some (.ref p))) (k : IsL C.K G us es) : Stp C G H σ ρ G (upd H p (.lst us)) (ρ.set i (.own es)) := by
  obtain ⟨p', vs, ho', h1, h2, h3, h4, mp⟩ := S.own hi
  rw [ho] at ho'
  cases ho'
  exact S.poke1 hi rfl ho rfl ⟨p, us, rfl, h1, upd_same, k, h4⟩
/-- found.append(x) -/
theorem ev_append {K' : PySem.W.Frag} (hK : K' = C.K) {P : PD} (hi : ∃ ds, ρ[i]? = some (.own ds)) (h : Ev C te ρ fun d ρ1 => ∃ ds, ρ1[i]? = some (.own ds) ∧ ds.length < 100000 ∧ P .non (ρ1.set i (.own (ds ++ [d])))) :
    Ev C (tBM K' "list" rAppend (tVar i) (tCons te tNil)) ρ P := fun σ G H Q S q => by
  subst hK
  obtain ⟨ds0, hi⟩ := hi
  obtain ⟨p, vs, ho, h1, h2, h3, h4, mp⟩ := S.own hi
  refine ⟨_, ho, .inl ⟨rfl, vs, .inl (.inl h2)⟩, h σ G H _ S fun v d G1 H1 ρ1 s1 p1 k1 => ?_⟩
  obtain ⟨ds, e1, e2, e3⟩ := p1
  obtain ⟨p2, vs2, ho2, _, g2, g3, _, _⟩ := s1.st.own e1
  rw [ho] at ho2
  cases ho2
  refine ⟨p, vs2, v, rfl, rfl, g2, ?_, ?_⟩
  · rw [g3.length]
    exact Nat.lt_of_lt_of_le e2 (by decide)
  · exact q _ _ G1 _ _ (s1.trans (s1.st.put e1 ho (g3.append (.cons k1 .nil)))) e3 .non
/-- rest.pop(n) -/
theorem ev_popAt {K' : PySem.W.Frag} (hK : K' = C.K) {P : PD} (hi : ∃ ds, ρ[i]? = some (.own ds)) (h : Ev C te ρ fun d ρ1 => ∃ ds x, ∃ n : Nat, d = .int (n : Int) ∧ n < 100000 ∧ ρ1[i]? = some (.own ds) ∧ ds[n]? = some x ∧ P x (ρ1.set i (.own (ds.eraseIdx n)))) :
    Ev C (tBM K' "list" rPopAt (tVar i) (tCons te tNil)) ρ P := fun σ G H Q S q => by
  subst hK
  obtain ⟨ds0, hi⟩ := hi
  obtain ⟨p, vs, ho, h1, h2, h3, h4, mp⟩ := S.own hi
  refine ⟨_, ho, .inl ⟨rfl, vs, .inl (.inl h2)⟩, h σ G H _ S fun v d G1 H1 ρ1 s1 p1 k1 => ?_⟩
  obtain ⟨ds, x, n, rfl, e0, e1, e2, e3⟩ := p1
  cases k1
  obtain ⟨p2, vs2, ho2, _, g2, g3, _, _⟩ := s1.st.own e1
  rw [ho] at ho2
  cases ho2
  obtain ⟨u, f1, f2⟩ := g3.get e2
  have hn : n < vs2.length := (List.getElem?_eq_some_iff.mp f1).1
  refine ⟨p, vs2, (n : Int), n, u, rfl, rfl, g2, by omega, by omega, ?_, f1, ?_⟩
  · unfold seqIndex?
    simp
    omega
  · exact q _ _ G1 _ _ (s1.trans (s1.st.put e1 ho (g3.erase n))) e3 f2
/-- found.extend(a new list) -/
theorem ev_extend {K' : PySem.W.Frag} (hK : K' = C.K) {P : PD} (hi : ∃ ds, ρ[i]? = some (.own ds)) (h : EvN C te ρ fun es ρ1 => ∃ ds, ρ1[i]? = some (.own ds) ∧ ds.length + es.length ≤ 100000 ∧ P .non (ρ1.set i (.own (ds ++ es)))) :
    Ev C (tBM K' "list" rExtend (tVar i) (tCons te tNil)) ρ P := fun σ G H Q S q => by
  subst hK
  obtain ⟨ds0, hi⟩ := hi
  obtain ⟨p, vs, ho, h1, h2, h3, h4, mp⟩ := S.own hi
  refine ⟨_, ho, .inl ⟨rfl, vs, .inl (.inl h2)⟩, h σ G H _ S fun b ws es G1 H1 ρ1 s1 p1 nb gb hb kb => ?_⟩
  obtain ⟨ds, e1, e2, e3⟩ := p1
  obtain ⟨p2, vs2, ho2, _, g2, g3, _, _⟩ := s1.st.own e1
  rw [ho] at ho2
  cases ho2
  refine ⟨p, b, vs2, ws, rfl, rfl, g2, hb, ?_, ?_⟩
  · rw [g3.length, kb.length]
    exact Nat.le_trans e2 (by decide)
  · exact q _ _ G1 _ _ (s1.trans (s1.st.put e1 ho (g3.append kb))) e3 .non
end
end DL
namespace DL
open PySem PySem.Spec PyProof.Rows L2
variable [TabT]

/-- what is walked tells the data ds, one a turn -/
structure WD (K : PySem.W.Frag) (G : Hp) (J : It) (ds : List D) : Prop where
  goes : ∀ i H, i < ds.length → Same G H → J.go i H
  stops : ∀ H, Same G H → J.stop ds.length H
  yields : ∀ i H x H' d, Same G H → ds[i]? = some d → J.yld i H x H' → (H' = H ∧ Is K G x d) ∨ ∃ T xs es, x = .ref T ∧ H T = none ∧ H' = upd H T (.tup xs) ∧ d = .tup es ∧ IsL K G xs es
def EvI (C : Fx) (wi : TI) (ρ : List Slot) (P : List D → List Slot → Prop) : Prop := ∀ (σ : L2.St) (G H : Hp) (R : It → Hp → Prop), Sg C G H σ ρ → (∀ J ds G' H' ρ', Stp C G H σ ρ G' H' ρ' → P ds ρ' → WD C.K G' J ds → R J H') → wi σ H R

section
variable {K : PySem.W.Frag} {G : Hp} {ds : List D}
def YW (K : PySem.W.Frag) (G : Hp) (ds : List D) : Nat → Hp → V → Hp → Prop := fun i H x H' => ∀ d, ds[i]? = some d → (H' = H ∧ Is K G x d) ∨ ∃ T xs es, x = .ref T ∧ H T = none ∧ H' = upd H T (.tup xs) ∧ d = .tup es ∧ IsL K G xs es
theorem WD.walk {J : It} (w : WD K G J ds) : Walk J ds.length (Same G) (YW K G ds) :=
  ⟨fun i H hi h => w.goes i H hi h, fun H h => w.stops H h, fun i H x H' _ h y d e => w.yields i H x H' d h e y⟩
theorem wd_list {a : Addr} {vs : List V} (h : G a = some (.lst vs)) (k : IsL K G vs ds) : WD K G (Itl K a) ds :=
  ⟨fun i H hi s => walk_list.goes i H (by rw [k.length]; exact hi) (.inl (.inl (s _ _ h))), fun H s => by
    have := walk_list (K := K) (a := a) (xs := vs)
    rw [← k.length]
    exact this.stops H (.inl (.inl (s _ _ h))), fun i H x H' d s e y => by
    have hi : i < vs.length := by
      rw [k.length]
      exact (List.getElem?_eq_some_iff.mp e).1
    obtain ⟨e1, e2⟩ := walk_list.yields i H x H' hi (.inl (.inl (s _ _ h))) y
    obtain ⟨v, f1, f2⟩ := k.get e
    rw [e2] at f1
    cases f1
    exact .inl ⟨e1, f2⟩⟩
theorem wd_tup {a : Addr} {vs : List V} (h : SqT K G a vs) (k : IsL K G vs ds) : WD K G (Itt K a) ds :=
  ⟨fun i H hi s => walk_tup.goes i H (by rw [k.length]; exact hi) (seqT_mono s h), fun H s => by
    have := walk_tup (K := K) (a := a) (xs := vs)
    rw [← k.length]
    exact this.stops H (seqT_mono s h), fun i H x H' d s e y => by
    have hi : i < vs.length := by
      rw [k.length]
      exact (List.getElem?_eq_some_iff.mp e).1
    obtain ⟨e1, e2⟩ := walk_tup.yields i H x H' hi (seqT_mono s h) y
    obtain ⟨v, f1, f2⟩ := k.get e
    rw [e2] at f1
    cases f1
    exact .inl ⟨e1, f2⟩⟩
/-- lo, lo + 1, .. -/
def intsD (lo : Int) (n : Nat) : List D := (List.range n).map fun (k : Nat) => D.int (lo + (k : Int))
theorem ints_len {lo : Int} {n : Nat} : (intsD lo n).length = n := by simp [intsD]
theorem ints_get {lo : Int} {n i : Nat} {d : D} (h : (intsD lo n)[i]? = some d) : d = .int (lo + i) ∧ i < n := by
  obtain ⟨hi, e⟩ := List.getElem?_eq_some_iff.mp h
  rw [ints_len] at hi
  simp [intsD] at e
  exact ⟨e.symm, hi⟩
theorem wd_range {lo : Int} {n : Nat} : WD K G (Itr lo n) (intsD lo n) :=
  ⟨fun i H hi s => walk_range.goes i H (by rw [ints_len] at hi; exact hi) trivial, fun H s => by
    rw [ints_len]
    exact walk_range.stops H trivial, fun i H x H' d s e y => by
    obtain ⟨rfl, hi⟩ := ints_get e
    obtain ⟨e1, e2⟩ := walk_range.yields i H x H' hi trivial y
    subst e2
    exact .inl ⟨e1, .int _⟩⟩
def pairs (i : Nat) : List D → List D
  | [] => []
  | d :: ds => .tup [.int (i : Int), d] :: pairs (i + 1) ds
theorem pairs_len : ∀ (i : Nat) (ds : List D), (pairs i ds).length = ds.length
  | _, [] => rfl
  | i, d :: ds => by
    show (pairs (i + 1) ds).length + 1 = ds.length + 1
    rw [pairs_len]
theorem pairs_get : ∀ {ds : List D} {i k : Nat} {d : D}, (pairs i ds)[k]? = some d → ∃ e, ds[k]? = some e ∧ d = .tup [.int ((i + k : Nat) : Int), e]
  | [], _, _, _, h => by simp [pairs] at h
  | e :: ds, i, 0, d, h => ⟨e, rfl, by
    have h : some (D.tup [.int (i : Int), e]) = some d := h
    cases h
    rfl⟩
  | e :: ds, i, k + 1, d, h => by
    have h : (pairs (i + 1) ds)[k]? = some d := h
    obtain ⟨e', h1, h2⟩ := pairs_get h
    exact ⟨e', h1, by rw [h2]; congr 3; omega⟩
theorem wd_enum {a : Addr} {vs : List V} (h : G a = some (.lst vs)) (k : IsL K G vs ds) : WD K G (Ite K a) (pairs 0 ds) :=
  ⟨fun i H hi s => walk_enum.goes i H (by rw [pairs_len] at hi; rw [k.length]; exact hi) (.inl (.inl (s _ _ h))), fun H s => by
    have := walk_enum (K := K) (a := a) (xs := vs)
    rw [pairs_len, ← k.length]
    exact this.stops H (.inl (.inl (s _ _ h))), fun i H x H' d s e y => by
    obtain ⟨d', f1, rfl⟩ := pairs_get e
    have hi : i < vs.length := by
      rw [k.length]
      exact (List.getElem?_eq_some_iff.mp f1).1
    obtain ⟨T, y1, y2, rfl, nT, e2, e3, e4⟩ := walk_enum.yields i H x H' hi (.inl (.inl (s _ _ h))) y
    obtain ⟨v, g1, g2⟩ := k.get f1
    cases e3
    have e4 : vs[i]? = some y2 := e4
    rw [e4] at g1
    cases g1
    refine .inr ⟨T, _, _, rfl, nT, e2, rfl, .cons ?_ (.cons g2 .nil)⟩
    simpa using Is.int (K := K) (G := G) (i : Int)⟩
def zips : List D → List D → List D
  | x :: xs, y :: ys => .tup [x, y] :: zips xs ys
  | _, _ => []
theorem zips_len : ∀ (xs ys : List D), (zips xs ys).length = min xs.length ys.length
  | [], _ => by simp [zips]
  | _ :: _, [] => by simp [zips]
  | x :: xs, y :: ys => by
    show (zips xs ys).length + 1 = min (xs.length + 1) (ys.length + 1)
    rw [zips_len]
    omega
theorem zips_get : ∀ {xs ys : List D} {k : Nat} {d : D}, (zips xs ys)[k]? = some d → ∃ x y, xs[k]? = some x ∧ ys[k]? = some y ∧ d = .tup [x, y]
  | [], _, _, _, h => by simp [zips] at h
  | _ :: _, [], _, _, h => by simp [zips] at h
  | x :: xs, y :: ys, 0, d, h => ⟨x, y, rfl, rfl, by
    have h : some (D.tup [x, y]) = some d := h
    cases h
    rfl⟩
  | x :: xs, y :: ys, k + 1, d, h => by
    have h : (zips xs ys)[k]? = some d := h
    obtain ⟨x', y', h1, h2, h3⟩ := zips_get h
    exact ⟨x', y', h1, h2, h3⟩
theorem wd_zip {a b : Addr} {vs ws : List V} {es : List D} (h : G a = some (.lst vs)) (k : IsL K G vs ds) (h' : G b = some (.lst ws)) (k' : IsL K G ws es) : WD K G (Itz K a b) (zips ds es) :=
  have wk := walk_zip (K := K) (a := a) (b := b) (xs := vs) (ys := ws) rfl
  ⟨fun i H hi s => wk.goes i H (by rw [zips_len] at hi; rw [k.length, k'.length]; exact hi) ⟨.inl (.inl (s _ _ h)), .inl (.inl (s _ _ h'))⟩, fun H s => by
    rw [zips_len, ← k.length, ← k'.length]
    exact wk.stops H ⟨.inl (.inl (s _ _ h)), .inl (.inl (s _ _ h'))⟩, fun i H x H' d s e y => by
    obtain ⟨d1, d2, f1, f2, rfl⟩ := zips_get e
    have hi : i < min vs.length ws.length := by
      rw [k.length, k'.length]
      have := (List.getElem?_eq_some_iff.mp f1).1
      have := (List.getElem?_eq_some_iff.mp f2).1
      omega
    obtain ⟨T, y1, y2, rfl, nT, e2, e3, e4⟩ := wk.yields i H x H' hi ⟨.inl (.inl (s _ _ h)), .inl (.inl (s _ _ h'))⟩ y
    obtain ⟨v, g1, g2⟩ := k.get f1
    obtain ⟨v', g1', g2'⟩ := k'.get f2
    have e3 : vs[i]? = some y1 := e3
    have e4 : ws[i]? = some y2 := e4
    rw [e3] at g1
    rw [e4] at g1'
    cases g1
    cases g1'
    exact .inr ⟨T, _, _, rfl, nT, e2, rfl, .cons g2 (.cons g2' .nil)⟩⟩
end

section
variable {C : Fx} {ρ : List Slot} {te tl : TE} {ta : TA}
theorem ei_list {K' : PySem.W.Frag} {P : List D → List Slot → Prop} (h : Ev C tl ρ fun d ρ1 => ∃ ds, d = .lst ds ∧ P ds ρ1) (hK : K' = C.K := by rfl) : EvI C (iList K' tl) ρ P := fun σ G H R S q => by
  subst hK
  refine h σ G H _ S fun v d G1 H1 ρ1 s1 p1 k1 => ?_
  obtain ⟨ds, rfl, p1⟩ := p1
  cases k1 with
  | lst k1 k2 => exact ⟨_, rfl, ⟨_, .inl (.inl (s1.st.le _ _ k1))⟩, q _ ds G1 H1 ρ1 s1 p1 (wd_list k1 k2)⟩
theorem ei_tup {K' : PySem.W.Frag} {P : List D → List Slot → Prop} (h : Ev C tl ρ fun d ρ1 => ∃ ds, d = .tup ds ∧ P ds ρ1) (hK : K' = C.K := by rfl) : EvI C (iTup K' tl) ρ P := fun σ G H R S q => by
  subst hK
  refine h σ G H _ S fun v d G1 H1 ρ1 s1 p1 k1 => ?_
  obtain ⟨ds, rfl, p1⟩ := p1
  cases k1 with
  | tup k1 k2 => exact ⟨_, rfl, ⟨_, seqT_mono s1.st.le k1⟩, q _ ds G1 H1 ρ1 s1 p1 (wd_tup k1 k2)⟩
theorem ei_range1 {P : List D → List Slot → Prop} (h : EvA C ta ρ fun ds ρ1 => ∃ j : Int, ds = [.int j] ∧ -(2 ^ 62) ≤ j ∧ j < 2 ^ 62 ∧ P (intsD 0 j.toNat) ρ1) : EvI C (iRng1 ta) ρ P := fun σ G H R S q => by
  refine h σ G H _ S fun vs ds G1 H1 ρ1 s1 p1 k1 => ?_
  obtain ⟨j, rfl, b1, b2, p1⟩ := p1
  cases k1 with
  | cons k1 k2 =>
    cases k1
    cases k2
    exact ⟨j, rfl, b1, b2, q _ _ G1 H1 ρ1 s1 p1 wd_range⟩
theorem ei_range2 {P : List D → List Slot → Prop} (h : EvA C ta ρ fun ds ρ1 => ∃ i j : Int, ds = [.int i, .int j] ∧ (-(2 ^ 62) ≤ i ∧ i < 2 ^ 62 ∧ -(2 ^ 62) ≤ j ∧ j < 2 ^ 62) ∧ P (intsD i (j - i).toNat) ρ1) : EvI C (iRng2 ta) ρ P := fun σ G H R S q => by
  refine h σ G H _ S fun vs ds G1 H1 ρ1 s1 p1 k1 => ?_
  obtain ⟨i, j, rfl, b, p1⟩ := p1
  cases k1 with
  | cons k1 k2 =>
    cases k1
    cases k2 with
    | cons k2 k3 =>
      cases k2
      cases k3
      exact ⟨i, j, rfl, b, q _ _ G1 H1 ρ1 s1 p1 wd_range⟩
theorem ei_enum {K' : PySem.W.Frag} {P : List D → List Slot → Prop} (h : EvA C ta ρ fun ds ρ1 => ∃ es, ds = [.lst es] ∧ P (pairs 0 es) ρ1) (hK : K' = C.K := by rfl) : EvI C (iEnum K' ta) ρ P := fun σ G H R S q => by
  subst hK
  refine h σ G H _ S fun vs ds G1 H1 ρ1 s1 p1 k1 => ?_
  obtain ⟨es, rfl, p1⟩ := p1
  cases k1 with
  | cons k1 k2 =>
    cases k2
    cases k1 with
    | lst k1 k2 => exact ⟨_, _, rfl, .inl (.inl (s1.st.le _ _ k1)), q _ _ G1 H1 ρ1 s1 p1 (wd_enum k1 k2)⟩
theorem wd_zipT {K : PySem.W.Frag} {G : Hp} {ds es : List D} {a b : Addr} {vs ws : List V} (h : SqT K G a vs) (k : IsL K G vs ds) (h' : SqT K G b ws) (k' : IsL K G ws es) : WD K G (RZ.ItzT K a b) (zips ds es) := by
  refine ⟨fun i H hi s => ?_, fun H s => ?_, fun i H x H' d s e y => ?_⟩
  · rw [zips_len, ← k.length, ← k'.length] at hi
    exact ⟨vs, ws, vs[i]'(by omega), ws[i]'(by omega), seqT_mono s h, seqT_mono s h', by simp, by simp⟩
  · rw [zips_len, ← k.length, ← k'.length]
    exact ⟨vs, ws, seqT_mono s h, seqT_mono s h', by omega⟩
  · obtain ⟨d1, d2, f1, f2, rfl⟩ := zips_get e
    obtain ⟨T, y1, y2, rfl, nT, e2, e3, e4⟩ := y
    obtain ⟨v, g1, g2⟩ := k.get f1
    obtain ⟨v', g1', g2'⟩ := k'.get f2
    rw [e3 vs (seqT_mono s h)] at g1
    rw [e4 ws (seqT_mono s h')] at g1'
    cases g1
    cases g1'
    exact .inr ⟨T, _, _, rfl, nT, e2, rfl, .cons g2 (.cons g2' .nil)⟩
theorem ei_zip {K' : PySem.W.Frag} {P : List D → List Slot → Prop} (h : EvA C ta ρ fun ds ρ1 => ∃ xs ys, (ds = [.lst xs, .lst ys] ∨ ds = [.tup xs, .tup ys]) ∧ P (zips xs ys) ρ1) (hK : K' = C.K := by rfl) : EvI C (RZ.iZipA K' ta) ρ P := fun σ G H R S q => by
  subst hK
  refine h σ G H _ S fun vs ds G1 H1 ρ1 s1 p1 k1 => ?_
  obtain ⟨xs, ys, e, p1⟩ := p1
  rcases e with rfl | rfl
  · cases k1 with
    | cons k1 k2 =>
      cases k2 with
      | cons k2 k3 =>
        cases k3
        cases k1 with
        | lst a1 a2 =>
          cases k2 with
          | lst b1 b2 => exact ⟨_, _, _, _, rfl, .inl ⟨.inl (.inl (s1.st.le _ _ a1)), .inl (.inl (s1.st.le _ _ b1)), q _ _ G1 H1 ρ1 s1 p1 (wd_zip a1 a2 b1 b2)⟩⟩
  · cases k1 with
    | cons k1 k2 =>
      cases k2 with
      | cons k2 k3 =>
        cases k3
        cases k1 with
        | tup a1 a2 =>
          cases k2 with
          | tup b1 b2 => exact ⟨_, _, _, _, rfl, .inr ⟨seqT_mono s1.st.le a1, seqT_mono s1.st.le b1, q _ _ G1 H1 ρ1 s1 p1 (wd_zipT a1 a2 b1 b2)⟩⟩

/-! ### for -/
theorem xs_for {wi : TI} {g : TG} {tb : TS} {is : List Nat} {po : Po} (I : List D → Nat → List Slot → Prop) (h : EvI C wi ρ fun ds ρ1 => I ds 0 ρ1 ∧
    (∀ i d ρ', ds[i]? = some d → I ds i ρ' → Eg C g is d ρ' fun ρ2 => Xs C tb ρ2 { nx := I ds (i + 1), rt := po.rt, bk := po.nx, ct := I ds (i + 1) }) ∧ ∀ ρ', I ds ds.length ρ' → po.nx ρ') : Xs C (tFor wi g tb) ρ po := fun σ G H Dn S hn hr hb hc => by
  refine h σ G H _ S fun J ds G1 H1 ρ1 s1 p1 w => ?_
  obtain ⟨i0, step, fin⟩ := p1
  refine for_it w.walk (fun i σ2 H2 => ∃ G2 ρ2, Sg C G2 H2 σ2 ρ2 ∧ Same G1 G2 ∧ I ds i ρ2) ⟨G1, ρ1, s1.st, Same.refl G1, i0⟩ (fun i σ2 H2 _ ⟨G2, ρ2, S2, e2, _⟩ => e2.trans S2.le) (fun i x σ2 H2 H3 hi ⟨G2, ρ2, S2, e2, i2⟩ y => ?_) fun σ2 H2 ⟨G2, ρ2, S2, e2, i2⟩ => hn σ2 G2 H2 ρ2 S2 (s1.ext.gg.trans e2) (fin ρ2 i2)
  have hd : ds[i]? = some ds[i] := List.getElem?_eq_getElem hi
  have go : ∀ {G3 : Hp} {x : V}, Sg C G3 H3 σ2 ρ2 → Same G2 G3 → Is C.K G3 x ds[i] → g x σ2 H3 fun σ4 H4 => tb { Dn with nx := fun σ5 H5 => ∃ G5 ρ5, Sg C G5 H5 σ5 ρ5 ∧ Same G1 G5 ∧ I ds (i + 1) ρ5, ct := fun σ5 H5 => ∃ G5 ρ5, Sg C G5 H5 σ5 ρ5 ∧ Same G1 G5 ∧ I ds (i + 1) ρ5, bk := Dn.nx } σ4 H4 := fun {G3 x} S3 e3 k => by
    refine step i _ ρ2 hd i2 σ2 G3 H3 x _ S3 k fun σ4 ρ4 S4 p4 _ _ => ?_
    exact p4 σ4 G3 H3 _ S4 (fun σ5 G5 H5 ρ5 S5 e5 p5 => ⟨G5, ρ5, S5, (e2.trans e3).trans e5, p5⟩) hr (fun σ5 G5 H5 ρ5 S5 e5 p5 => hn σ5 G5 H5 ρ5 S5 (((s1.ext.gg.trans e2).trans e3).trans e5) p5) fun σ5 G5 H5 ρ5 S5 e5 p5 => ⟨G5, ρ5, S5, (e2.trans e3).trans e5, p5⟩
  rcases y _ hd with ⟨rfl, k⟩ | ⟨T, xs, es, rfl, nT, rfl, e, k⟩
  · exact go S2 (Same.refl G2) (k.mono e2)
  · have ex := Ext.new (F := fun _ => False) S2.le nT (.tup xs)
    refine go (S2.keep ex).st ex.gg ?_
    rw [e]
    exact .tup (.inl (.inl upd_same)) (k.mono (e2.trans ex.gg))
theorem xs_while {tc : TT} {tb : TS} {po : Po} (I : Nat → List Slot → Prop) {m0 : Nat} (h0 : I m0 ρ) (step : ∀ m ρ', I m ρ' → EvT C tc ρ' fun b ρ2 => (b = true → Xs C tb ρ2 { nx := fun ρ3 => ∃ m', m' < m ∧ I m' ρ3, rt := po.rt, bk := po.nx, ct := fun ρ3 => ∃ m', m' < m ∧ I m' ρ3 }) ∧ (b = false → po.nx ρ2)) : Xs C (tWhile tc tb) ρ po := fun σ G H Dn S hn hr hb hc => by
  refine ⟨fun m σ2 H2 => ∃ G2 ρ2, Sg C G2 H2 σ2 ρ2 ∧ Same G G2 ∧ I m ρ2, ⟨m0, G, ρ, S, Same.refl G, h0⟩, fun m σ2 H2 ⟨G2, ρ2, S2, e2, i2⟩ => ?_⟩
  refine step m ρ2 i2 σ2 G2 H2 _ S2 fun b G3 H3 ρ3 s3 p3 => ?_
  cases b with
  | false => exact iteF (hn σ2 G3 H3 ρ3 s3.st (e2.trans s3.ext.gg) (p3.2 rfl))
  | true =>
    refine iteT ⟨fun σ4 H4 => ∃ m', m' < m ∧ ∃ G4 ρ4, Sg C G4 H4 σ4 ρ4 ∧ Same G G4 ∧ I m' ρ4, fun σ4 H4 z => z, ?_⟩
    exact p3.1 rfl σ2 G3 H3 _ s3.st (fun σ5 G5 H5 ρ5 S5 e5 ⟨m', l, p5⟩ => ⟨m', l, G5, ρ5, S5, (e2.trans s3.ext.gg).trans e5, p5⟩) hr (fun σ5 G5 H5 ρ5 S5 e5 p5 => hn σ5 G5 H5 ρ5 S5 ((e2.trans s3.ext.gg).trans e5) p5) fun σ5 G5 H5 ρ5 S5 e5 ⟨m', l, p5⟩ => ⟨m', l, G5, ρ5, S5, (e2.trans s3.ext.gg).trans e5, p5⟩

/-! ### comprehensions -/
def wipeS (ρ : List Slot) : List Nat → List Slot
  | [] => ρ
  | v :: vs => (wipeS ρ vs).set v .un
theorem Sg.wipe {G H : Hp} {σ : L2.St} (S : Sg C G H σ ρ) : ∀ vs : List Nat, Sg C G H (L2.wipe σ vs) (wipeS ρ vs)
  | [] => S
  | v :: vs => (S.wipe vs).setU
theorem wipeS_len : ∀ vs : List Nat, (wipeS ρ vs).length = ρ.length
  | [] => rfl
  | v :: vs => by unfold wipeS; rw [List.length_set, wipeS_len vs]
theorem wipeS_get {i : Nat} {s : Slot} : ∀ {vs : List Nat}, (wipeS ρ vs)[i]? = some s → s = .un ∨ (i ∉ vs ∧ ρ[i]? = some s)
  | [], h => .inr ⟨by simp, h⟩
  | v :: vs, h => by
    unfold wipeS at h
    by_cases hi : v = i
    · subst hi
      by_cases hv : v < (wipeS ρ vs).length
      · rw [List.getElem?_set_self hv] at h
        exact .inl (Option.some.inj h).symm
      · rw [List.getElem?_eq_none (by simpa using hv)] at h
        cases h
    · rw [List.getElem?_set_ne hi] at h
      rcases wipeS_get h with h | ⟨h1, h2⟩
      · exact .inl h
      · exact .inr ⟨by simp only [List.mem_cons, not_or]; exact ⟨fun e => hi e.symm, h1⟩, h2⟩
theorem wipe_ne {σ : L2.St} {i : Nat} : ∀ {vs : List Nat}, i ∉ vs → (L2.wipe σ vs)[i]? = σ[i]?
  | [], _ => rfl
  | v :: vs, h => by
    unfold L2.wipe
    simp only [List.mem_cons, not_or] at h
    rw [List.getElem?_set_ne (fun e => h.1 e.symm), wipe_ne h.2]
theorem Mt.wipe {σ : L2.St} {vs : List Nat} {j : Nat} {a : Addr} (m : Mt (L2.wipe σ vs) (wipeS ρ vs) j a) : Mt σ (wipeS ρ vs) j a ∧ Mt σ ρ j a := by
  have key : j ∉ vs ∧ ∃ s, ρ[j]? = some s ∧ s.mu = true := by
    obtain ⟨s, e, hm⟩ := m.slot
    rcases wipeS_get e with e | ⟨h1, h2⟩
    · subst e
      cases hm
    · exact ⟨h1, s, h2, hm⟩
  have e := m.1
  rw [wipe_ne key.1] at e
  exact ⟨⟨e, m.2⟩, ⟨e, key.2⟩⟩
theorem Mt.wipe' {σ : L2.St} {vs : List Nat} {j : Nat} {a : Addr} (m : Mt σ (wipeS ρ vs) j a) : Mt (L2.wipe σ vs) (wipeS ρ vs) j a := by
  have key : j ∉ vs := by
    obtain ⟨s, e, hm⟩ := m.slot
    rcases wipeS_get e with e | ⟨h1, h2⟩
    · subst e
      cases hm
    · exact h1
  refine ⟨?_, m.2⟩
  rw [wipe_ne key]
  exact m.1
/-- only the slots that are not forgotten matter -/
theorem Sg.unwipe {G H : Hp} {σ : L2.St} {vs : List Nat} (S : Sg C G H (L2.wipe σ vs) (wipeS ρ vs)) : Sg C G H σ (wipeS ρ vs) := by
  have len : σ.length = (wipeS ρ vs).length := by
    have := S.len
    rwa [wipe_length] at this
  refine ⟨S.ext, len, fun i s hs => ?_, fun i j a h1 h2 => S.dis i j a h1.wipe' h2.wipe'⟩
  rcases wipeS_get hs with rfl | ⟨hi, _⟩
  · have hl : i < σ.length := by
      rw [len]
      exact (List.getElem?_eq_some_iff.mp hs).1
    exact ⟨_, List.getElem?_eq_getElem hl, trivial⟩
  · obtain ⟨o, ho, q⟩ := S.sl i s hs
    rw [wipe_ne hi] at ho
    exact ⟨o, ho, q⟩
theorem wipe_none {σ : L2.St} {v : Nat} : ∀ us : List Nat, v ∈ us → v < σ.length → (L2.wipe σ us)[v]? = some none
  | [], h, _ => by simp at h
  | u :: us, h, hl => by
    have hu : L2.wipe σ (u :: us) = (L2.wipe σ us).set u none := rfl
    rw [hu]
    by_cases e : u = v
    · subst e
      rw [List.getElem?_set_self (by rw [wipe_length]; exact hl)]
    · rw [List.getElem?_set_ne e]
      simp only [List.mem_cons] at h
      exact wipe_none us (h.resolve_left fun z => e z.symm) hl
theorem wipe_wipe {σ : L2.St} {vs : List Nat} : ∀ ws : List Nat, (∀ v ∈ ws, v ∈ vs) → L2.wipe (L2.wipe σ vs) ws = L2.wipe σ vs
  | [], _ => rfl
  | v :: ws, hw => by
    have hu : L2.wipe (L2.wipe σ vs) (v :: ws) = (L2.wipe (L2.wipe σ vs) ws).set v none := rfl
    rw [hu, wipe_wipe ws fun z hz => hw z (by simp [hz])]
    refine List.ext_getElem? fun j => ?_
    by_cases hj : v = j
    · subst hj
      by_cases hl : v < σ.length
      · rw [List.getElem?_set_self (by rw [wipe_length]; exact hl), wipe_none vs (hw v (by simp)) hl]
      · rw [List.getElem?_eq_none (by rw [List.length_set, wipe_length]; omega), List.getElem?_eq_none (by rw [wipe_length]; omega)]
    · rw [List.getElem?_set_ne hj]
theorem en_lc {wi : TI} {g : TG} {tt : TT} {te : TE} {vs is : List Nat} {P : List D → List Slot → Prop} (I : List D → Nat → List D → List Slot → Prop) (hv : ∀ i ∈ is, i ∈ vs) (h : EvI C wi ρ fun ds ρ1 => ds.length ≤ 100000 ∧ I ds 0 [] (wipeS ρ1 vs) ∧
    (∀ i d acc ρ', ds[i]? = some d → I ds i acc (wipeS ρ' vs) → Eg C g is d (wipeS ρ' vs) fun ρ2 => EvT C tt ρ2 fun b ρ3 => (b = true → Ev C te ρ3 fun e ρ4 => I ds (i + 1) (acc ++ [e]) (wipeS ρ4 vs)) ∧ (b = false → I ds (i + 1) acc (wipeS ρ3 vs))) ∧
    ∀ acc ρ', acc.length ≤ ds.length → I ds ds.length acc (wipeS ρ' vs) → P acc (wipeS ρ' vs)) : EvN C (tLc wi g tt te vs) ρ P := fun σ G H Q S q => by
  refine h σ G H _ S fun J ds G1 H1 ρ1 s1 p1 w => ?_
  obtain ⟨hlen, i0, step, fin⟩ := p1
  intro Dl nD
  have nD0 : H Dl = none := by
    cases z : H Dl with
    | none => rfl
    | some o =>
      obtain ⟨u, e⟩ := s1.ext.th _ _ z
      rw [nD] at e
      cases e
  have gD : G1 Dl = none := s1.st.le.free nD
  have ex0 := Ext.newM (F := fun _ => False) s1.st.le nD (.lst [])
  have s0 := s1.st.keep ex0
  let Pv : Nat → Hp → Prop := fun i H2 => ∃ G2 ρ2 acc accd, Stp C G H σ ρ G2 H2 (wipeS ρ2 vs) ∧ Same G1 G2 ∧ G2 Dl = none ∧ H2 Dl = some (.lst acc) ∧ IsL C.K G2 acc accd ∧ I ds i accd (wipeS ρ2 vs) ∧ accd.length ≤ i
  have sub0 : ∀ a, Fp σ (wipeS ρ1 vs) a → Fp σ ρ1 a := fun a ⟨j, m⟩ => ⟨j, m.wipe'.wipe.2⟩
  refine lc_it w.walk Pv ⟨G1, ρ1, [], [], ⟨(s1.trans s0).ext, (s0.st.wipe vs).unwipe, fun a ha => s1.sub a (sub0 a ha)⟩, Same.refl G1, gD, upd_same, .nil, i0, Nat.zero_le _⟩ (fun i H2 _ ⟨G2, ρ2, acc, accd, s2, e2, _⟩ => e2.trans s2.st.le) (fun i x H2 H3 hi ⟨G2, ρ2, acc, accd, s2, e2, gd, hd, ka, i2, la⟩ y => ?_) fun H2 ⟨G2, ρ2, acc, accd, s2, e2, gd, hd, ka, i2, la⟩ => q Dl acc accd G2 H2 _ s2 (fin accd ρ2 la i2) nD0 gd hd ka
  have hdi : ds[i]? = some ds[i] := List.getElem?_eq_getElem hi
  have S2w : Sg C G2 H2 (L2.wipe σ vs) (wipeS ρ2 vs) := by
    refine ⟨s2.st.ext, by rw [wipe_length, s2.st.len], fun j s hs => ?_, fun j k a h1 h2 => s2.st.dis j k a h1.wipe.1 h2.wipe.1⟩
    rcases wipeS_get hs with rfl | ⟨hj, _⟩
    · have hl : j < (L2.wipe σ vs).length := by
        rw [wipe_length, s2.st.len]
        exact (List.getElem?_eq_some_iff.mp hs).1
      exact ⟨_, List.getElem?_eq_getElem hl, trivial⟩
    · obtain ⟨o, ho, qo⟩ := s2.st.sl j s hs
      exact ⟨o, by rw [wipe_ne hj]; exact ho, qo⟩
  have go : ∀ {G3 : Hp} {x : V}, Ext G2 H2 G3 H3 (fun _ => False) → G3 Dl = none → H3 Dl = some (.lst acc) → Is C.K G3 x ds[i] → g x (L2.wipe σ vs) H3 fun σ4 H4 => L2.wipe σ4 vs = L2.wipe σ vs ∧ tt σ4 H4 fun b H5 =>
      if b = true then te σ4 H5 fun y H6 => ∃ acc, H6 Dl = some (.lst acc) ∧ acc.length < sizeLine ∧ Pv (i + 1) (upd H6 Dl (.lst (acc ++ [y]))) else Pv (i + 1) H5 := fun {G3 x} ex g3 h3 k => by
    have S3 := (S2w.keep ex).st
    refine step i _ accd ρ2 hdi i2 (L2.wipe σ vs) G3 H3 x _ S3 k fun σ4 ρ4 S4 p4 w4 m4 => ⟨?_, ?_⟩
    · rw [w4 vs hv]
      exact wipe_wipe vs fun _ h => h
    · have w4' : L2.wipe σ4 vs = L2.wipe σ vs := by
        rw [w4 vs hv]
        exact wipe_wipe vs fun _ h => h
      -- D is nobody's
      have nf2 : ¬ Fp (L2.wipe σ vs) (wipeS ρ2 vs) Dl := fun ⟨j, m⟩ => by
        obtain ⟨_, ⟨xs, e⟩, _⟩ := S.fp_some (s2.sub Dl ⟨j, m.wipe.1⟩)
        rw [nD0] at e
        cases e
      have nf4 : ¬ Fp σ4 ρ4 Dl := fun ⟨j, m⟩ => nf2 ⟨j, m4 j _ m⟩
      have back : ∀ {ρ5 : List Slot} {G5 H5 : Hp}, Stp C G3 H3 σ4 ρ4 G5 H5 ρ5 → Stp C G H σ ρ G5 H5 (wipeS ρ5 vs) := fun {ρ5 G5 H5} s5 => by
        have S5 : Sg C G5 H5 σ (wipeS ρ5 vs) := by
          have := s5.st.wipe vs
          rw [w4'] at this
          exact this.unwipe
        have sub5 : ∀ a, Fp σ4 ρ5 a → Fp σ ρ a := fun a ha => by
          obtain ⟨j, m⟩ := s5.sub a ha
          exact s2.sub a ⟨j, (m4 j a m).wipe.1⟩
        refine ⟨(s2.ext.trans ex fun _ _ _ h => h.elim).trans s5.ext fun a _ _ ⟨j, m⟩ => s2.sub a ⟨j, (m4 j a m).wipe.1⟩, S5, fun a ⟨j, m⟩ => sub5 a ?_⟩
        have m1 := m.wipe'
        rw [← w4'] at m1
        exact ⟨j, m1.wipe.2⟩
      refine p4 σ4 G3 H3 _ S4 fun b G5 H5 ρ5 s5 p5 => ?_
      cases b with
      | false =>
        refine iteF ⟨G5, ρ5, acc, accd, back s5, (e2.trans ex.gg).trans s5.ext.gg, s5.ext.nf _ _ h3 g3 nf4, s5.ext.fr _ _ h3 (fun _ z => nomatch z) nf4, (ka.mono ex.gg).mono s5.ext.gg, p5.2 rfl, Nat.le_succ_of_le la⟩
      | true =>
        refine iteT (p5.1 rfl σ4 G5 H5 _ s5.st fun y e6 G6 H6 ρ6 s6 p6 k6 => ?_)
        have g6 : G6 Dl = none := s6.ext.nf _ _ (s5.ext.fr _ _ h3 (fun _ z => nomatch z) nf4) (s5.ext.nf _ _ h3 g3 nf4) fun z => nf4 (s5.sub _ z)
        have h6 : H6 Dl = some (.lst acc) := s6.ext.fr _ _ (s5.ext.fr _ _ h3 (fun _ z => nomatch z) nf4) (fun _ z => nomatch z) fun z => nf4 (s5.sub _ z)
        have t6 := back (s5.trans s6)
        have nf6 : ¬ Fp σ (wipeS ρ6 vs) Dl := fun z => by
          obtain ⟨_, ⟨xs, e⟩, _⟩ := S.fp_some (t6.sub Dl z)
          rw [nD0] at e
          cases e
        refine ⟨acc, h6, ?_, G6, ρ6, acc ++ [y], accd ++ [e6], ?_, ((e2.trans ex.gg).trans s5.ext.gg).trans s6.ext.gg, g6, upd_same, (((ka.mono ex.gg).mono s5.ext.gg).mono s6.ext.gg).append (.cons k6 .nil), p6, by rw [List.length_append]; exact Nat.succ_le_succ la⟩
        · rw [ka.length]
          exact Nat.lt_of_le_of_lt (Nat.le_of_lt (Nat.lt_of_le_of_lt la (Nat.lt_of_lt_of_le hi hlen))) (by decide)
        · -- the new list is written: the slots don't know it
          have gh : Same G6 (upd H6 Dl (.lst (acc ++ [y]))) := fun b u e => by
            rw [upd_ne (ne_of_none e g6)]
            exact t6.st.le b u e
          have ex6 : ∀ {A B : Hp} {F : Addr → Prop}, B Dl = none → Ext A B G6 H6 F → Ext A B G6 (upd H6 Dl (.lst (acc ++ [y]))) F := fun {A B F} n e => ⟨e.gg, gh, fun b o hb nt f => by
            rw [upd_ne (ne_of_none hb n)]
            exact e.fr b o hb nt f, e.nf, fun b o hb => by
            obtain ⟨u, hu⟩ := e.th b o hb
            exact ⟨u, by rw [upd_ne (ne_of_none hb n)]; exact hu⟩, fun t => tabs_upd h6 (fun _ z => nomatch z) (fun _ z => nomatch z) (e.tt t), e.nt⟩
          refine ⟨ex6 nD0 t6.ext, ⟨ex6 (h0_none S nD0) t6.st.ext, t6.st.len, fun j s hs => ?_, t6.st.dis⟩, t6.sub⟩
          obtain ⟨o, ho, qo⟩ := t6.st.sl j s hs
          refine ⟨o, ho, qo.move (Same.refl G6) fun hm a u e h nt g => ⟨?_, g⟩⟩
          subst e
          have np : a ≠ Dl := fun z => nf6 (z ▸ ⟨j, ho, _, hs, hm⟩)
          rw [upd_ne np]
          exact h
  rcases y _ hdi with ⟨rfl, k⟩ | ⟨T, xs, es, rfl, nT, rfl, e, k⟩
  · exact go (Ext.refl s2.st.le) gd hd (k.mono e2)
  · have ex := Ext.new (F := fun _ => False) s2.st.le nT (.tup xs)
    refine go ex ?_ ?_ ?_
    · rw [upd_ne (ne_of_none hd nT)]
      exact gd
    · rw [upd_ne (ne_of_none hd nT)]
      exact hd
    · rw [e]
      exact .tup (.inl (.inl upd_same)) (k.mono (e2.trans ex.gg))
end
end DL
namespace DL
open PySem PySem.Spec PyProof.Rows L2
variable [TabT]

/-- what is asked for an answer with R, for an error of the class at X with Z -/
abbrev FS := List D → (D → Prop) → (Addr → D → Prop) → Prop
abbrev FP := Nat → List D → (D → Nat → Prop) → (Addr → D → Prop) → Prop
/-- an exception flies: its class, its dict, frozen -/
def Flies (K : PySem.W.Frag) (G H : Hp) (F : Addr → Prop) (Z : Addr → D → Prop) (E : XK) : Prop :=
  ∀ (X dx : Addr) (v : V) (d : D) (G' H' : Hp), Ext G H G' H' F → G' dx = some (.xd [("value", v)]) → Is K G' v d → Z X d → E (.ref X) (some dx) H'
/-- the promise of a def over data -/
def spD (K : PySem.W.Frag) (f : FS) : Sp := fun vs H Q E => ∃ G ds R Z, Same G H ∧ IsL K G vs ds ∧ f ds R Z ∧ (∀ v d G' H', Ext G H G' H' (fun _ => False) → Is K G' v d → R d → Q v H') ∧ Flies K G H (fun _ => False) Z E
/-- .. of one that draws from the list that comes first -/
def spP (K : PySem.W.Frag) (f : FP) : Sp := fun vs H Q E => ∃ a ws G ds k R Z, vs = .ref a :: ws ∧ Same G H ∧ G a = none ∧ PotAt H a k ∧ IsL K G ws ds ∧ f k ds R Z ∧
  (∀ v d k' G' H', Ext G H G' H' (fun b => b = a) → G' a = none → PotAt H' a k' → Is K G' v d → R d k' → Q v H') ∧ Flies K G H (fun b => b = a) Z E
theorem Flies.none {K : PySem.W.Frag} {G H : Hp} {F : Addr → Prop} {E : XK} : Flies K G H F (fun _ _ => False) E := fun _ _ _ _ _ _ _ _ _ z => z.elim
theorem Flies.imp {K : PySem.W.Frag} {G H : Hp} {F : Addr → Prop} {Z Z' : Addr → D → Prop} {E : XK} (h : Flies K G H F Z E) (i : ∀ X d, Z' X d → Z X d) : Flies K G H F Z' E := fun X dx v d G' H' e g k z => h X dx v d G' H' e g k (i X d z)

section
variable {C : Fx} {ρ : List Slot} {P : PD} {ta : TA} {E : XK} {Z : Addr → D → Prop}
theorem list_nil {α : Type} (l : List α) : l ++ [] = l := List.append_nil l
/-- f(..) of a def over data; es: its defaults -/
theorem ev_call {K' : PySem.W.Frag} {f : FS} {dvs : List V} {es : List D} (hE : Flies C.K C.G0 C.H0 C.F0 Z E) (hd : ∀ G, IsL C.K G dvs es) (h : EvA C ta ρ fun ds ρ1 => f (ds ++ es) (fun d => P d ρ1) Z) (hK : K' = C.K := by rfl) : Ev C (tCall (spD K' f) dvs E ta) ρ P := fun σ G H Q S q => by
  subst hK
  refine h σ G H _ S fun vs ds G1 H1 ρ1 s1 p1 k1 => ?_
  refine ⟨G1, ds ++ es, _, Z, s1.st.le, k1.append (hd G1), p1, fun v d G' H' e k r => q v d G' H' ρ1 (s1.trans (s1.st.keep e)) r k, fun X dx v d G' H' e g k z => ?_⟩
  exact hE X dx v d G' H' (s1.st.ext.trans e fun _ _ _ z => z.elim) g k z
/-- .. without arguments -/
theorem ev_call0 {K' : PySem.W.Frag} {f : FS} {dvs : List V} {es : List D} {t0 : TE} (hE : Flies C.K C.G0 C.H0 C.F0 Z E) (hd : ∀ G, IsL C.K G dvs es) (ht : ∀ σ H Q, t0 σ H Q = spD K' f dvs H Q E) (h : f es (fun d => P d ρ) Z) (hK : K' = C.K := by rfl) : Ev C t0 ρ P := fun σ G H Q S q => by
  subst hK
  rw [ht]
  exact ⟨G, es, _, Z, S.le, hd G, h, fun v d G' H' e k r => q v d G' H' ρ (S.keep e) r k, fun X dx v d G' H' e g k z => hE X dx v d G' H' (S.ext.trans e fun _ _ _ z => z.elim) g k z⟩
/-- the list that is drawn from has turned -/
theorem Sg.drew {G H G' H' : Hp} {σ : L2.St} {i : Nat} {a : Addr} {k k' : Nat} (S : Sg C G H σ ρ) (hi : ρ[i]? = some (.pot a k)) (e : Ext G H G' H' (fun b => b = a)) (g : G' a = none) (p : PotAt H' a k') : Stp C G H σ ρ G' H' (ρ.set i (.pot a k')) := by
  have hl : i < ρ.length := (List.getElem?_eq_some_iff.mp hi).1
  obtain ⟨o, ho, rfl, h1, h2, h3⟩ := S.sl i _ hi
  have mp : Mt σ ρ i a := ⟨ho, _, hi, rfl⟩
  have mt : ∀ {j : Nat} {b : Addr}, Mt σ (ρ.set i (.pot a k')) j b → Mt σ ρ j b := fun {j b} m => by
    by_cases hj : j = i
    · subst hj
      have := m.1
      rw [ho] at this
      cases this
      exact mp
    · refine ⟨m.1, ?_⟩
      obtain ⟨q, e, hm⟩ := m.slot
      rw [List.getElem?_set_ne (Ne.symm hj)] at e
      exact ⟨q, e, hm⟩
  refine ⟨e.mono fun b hb => hb ▸ ⟨i, mp⟩, ⟨S.ext.trans e fun x u hx hf => ?_, by rw [List.length_set, S.len], fun j s hs => ?_, fun j k b q1 q2 => S.dis j k b (mt q1) (mt q2)⟩, fun b ⟨j, m⟩ => ⟨j, mt m⟩⟩
  · subst hf
    rcases h3 with h3 | h3
    · exact h3
    · rw [h3] at hx
      cases hx
  · by_cases hj : j = i
    · subst hj
      rw [List.getElem?_set_self hl] at hs
      cases hs
      exact ⟨_, ho, rfl, g, p, h3⟩
    · rw [List.getElem?_set_ne (Ne.symm hj)] at hs
      obtain ⟨o, ho2, q⟩ := S.sl j s hs
      refine ⟨o, ho2, q.move e.gg fun hm b u eb h nt g => ?_⟩
      subst eb
      have na : b ≠ a := fun z => hj (S.dis j i a ⟨z ▸ ho2, _, hs, hm⟩ mp)
      exact ⟨e.fr _ _ h nt na, e.nf _ _ h g na⟩
/-- f(pot, ..) -/
theorem ev_callP {K' : PySem.W.Frag} {f : FP} {i : Nat} {dvs : List V} {es : List D} (hE : Flies C.K C.G0 C.H0 C.F0 Z E) (hd : ∀ G, IsL C.K G dvs es) (hi : ∃ a k, ρ[i]? = some (.pot a k)) (h : EvA C ta ρ fun ds ρ1 => ∃ a k, ρ1[i]? = some (.pot a k) ∧ f k (ds ++ es) (fun d k' => P d (ρ1.set i (.pot a k'))) Z) (hK : K' = C.K := by rfl) :
    Ev C (tCall (spP K' f) dvs E (tCons (tVar i) ta)) ρ P := fun σ G H Q S q => by
  subst hK
  obtain ⟨a0, k0, hi⟩ := hi
  obtain ⟨o, ho, rfl, _⟩ := S.sl i _ hi
  refine ⟨_, ho, h σ G H _ S fun vs ds G1 H1 ρ1 s1 p1 k1 => ?_⟩
  obtain ⟨a, k, e1, p1⟩ := p1
  obtain ⟨o, ho2, rfl, g1, g2, g3⟩ := s1.st.sl i _ e1
  rw [ho] at ho2
  cases ho2
  refine ⟨a0, vs ++ dvs, G1, ds ++ es, k, _, Z, rfl, s1.st.le, g1, g2, k1.append (hd G1), p1, fun v d k' G' H' e g p kd r => q v d G' H' _ (s1.trans (s1.st.drew e1 e g p)) r kd, fun X dx v d G' H' e g kk z => ?_⟩
  refine hE X dx v d G' H' (s1.st.ext.trans e fun x u hx hf => ?_) g kk z
  subst hf
  rcases g3 with g3 | g3
  · exact g3
  · rw [g3] at hx
    cases hx
end

/-! ### a def's body -/
section
variable {K : PySem.W.Frag} {N : List Str} {vs : List V} {ds : List D} {G H : Hp}
theorem start_get {i : Nat} : (start N vs)[i]? = if i < vs.length then vs[i]?.map some else (List.replicate (N.length - vs.length) (none : Option V))[i - vs.length]? := by
  unfold L2.start
  rw [List.getElem?_append]
  simp only [List.length_map]
  split
  · rw [List.getElem?_map]
  · rfl
theorem start_sg (le : Same G H) (k : IsL K G vs ds) (F : Addr → Prop) : Sg ⟨K, G, H, F⟩ G H (start N vs) (ds.map .dat ++ List.replicate (N.length - ds.length) .un) := by
  have kl := k.length
  have lens : (start N vs).length = (ds.map Slot.dat ++ List.replicate (N.length - ds.length) Slot.un).length := by
    unfold L2.start
    simp [kl]
  have nm : ∀ {i : Nat} {s : Slot}, (ds.map Slot.dat ++ List.replicate (N.length - ds.length) Slot.un)[i]? = some s → (∃ d, ds[i]? = some d ∧ s = .dat d) ∨ s = .un := fun {i s} h => by
    rw [List.getElem?_append] at h
    split at h
    · rw [List.getElem?_map] at h
      cases e : ds[i]? with
      | none =>
        rw [e] at h
        cases h
      | some d =>
        rw [e] at h
        exact .inl ⟨d, rfl, (Option.some.inj h).symm⟩
    · rw [List.getElem?_replicate] at h
      split at h
      · exact .inr (Option.some.inj h).symm
      · cases h
  have nmt : ∀ {i : Nat} {a : Addr}, ¬ Mt (start N vs) (ds.map Slot.dat ++ List.replicate (N.length - ds.length) Slot.un) i a := fun {i a} m => by
    obtain ⟨r, e, hm⟩ := m.slot
    rcases nm e with ⟨d, _, z⟩ | z <;> subst z <;> cases hm
  refine ⟨Ext.refl le, lens, fun i s hs => ?_, fun i j a h _ => (nmt h).elim⟩
  have hl : i < (start N vs).length := by
    rw [lens]
    exact (List.getElem?_eq_some_iff.mp hs).1
  rcases nm hs with ⟨d, hd, rfl⟩ | rfl
  · obtain ⟨v, hv, kv⟩ := k.get hd
    refine ⟨some v, ?_, v, rfl, kv⟩
    rw [start_get, if_pos (List.getElem?_eq_some_iff.mp hv).1, hv]
    rfl
  · exact ⟨_, List.getElem?_eq_getElem hl, trivial⟩
theorem start_sgP {a : Addr} {k : Nat} (le : Same G H) (ga : G a = none) (pa : PotAt H a k) (t : IsL K G vs ds) (F : Addr → Prop) (fa : F a) : Sg ⟨K, G, H, F⟩ G H (start N (.ref a :: vs)) (.pot a k :: (ds.map .dat ++ List.replicate (N.length - (ds.length + 1)) .un)) := by
  have kl := t.length
  have lens : (start N (.ref a :: vs)).length = (Slot.pot a k :: (ds.map Slot.dat ++ List.replicate (N.length - (ds.length + 1)) Slot.un)).length := by
    unfold L2.start
    simp [kl]
  have nm : ∀ {i : Nat} {s : Slot}, (ds.map Slot.dat ++ List.replicate (N.length - (ds.length + 1)) Slot.un)[i]? = some s → (∃ d, ds[i]? = some d ∧ s = .dat d) ∨ s = .un := fun {i s} h => by
    rw [List.getElem?_append] at h
    split at h
    · rw [List.getElem?_map] at h
      cases e : ds[i]? with
      | none =>
        rw [e] at h
        cases h
      | some d =>
        rw [e] at h
        exact .inl ⟨d, rfl, (Option.some.inj h).symm⟩
    · rw [List.getElem?_replicate] at h
      split at h
      · exact .inr (Option.some.inj h).symm
      · cases h
  have nmt : ∀ {i : Nat} {b : Addr}, Mt (start N (.ref a :: vs)) (Slot.pot a k :: (ds.map Slot.dat ++ List.replicate (N.length - (ds.length + 1)) Slot.un)) i b → i = 0 := fun {i b} m => by
    cases i with
    | zero => rfl
    | succ i =>
      obtain ⟨r, e, hm⟩ := m.slot
      rw [List.getElem?_cons_succ] at e
      rcases nm e with ⟨d, _, z⟩ | z <;> subst z <;> cases hm
  refine ⟨Ext.refl le, lens, fun i s hs => ?_, fun i j b h1 h2 => (nmt h1).trans (nmt h2).symm⟩
  have hl : i < (start N (.ref a :: vs)).length := by
    rw [lens]
    exact (List.getElem?_eq_some_iff.mp hs).1
  cases i with
  | zero =>
    have hs : some (Slot.pot a k) = some s := hs
    cases hs
    exact ⟨some (.ref a), rfl, rfl, ga, pa, .inl fa⟩
  | succ i =>
    rw [List.getElem?_cons_succ] at hs
    rcases nm hs with ⟨d, hd, rfl⟩ | rfl
    · obtain ⟨v, hv, kv⟩ := t.get hd
      refine ⟨some v, ?_, v, rfl, kv⟩
      rw [start_get, if_pos (by rw [List.length_cons]; have := (List.getElem?_eq_some_iff.mp hv).1; omega), List.getElem?_cons_succ, hv]
      rfl
    · exact ⟨_, List.getElem?_eq_getElem hl, trivial⟩
/-- the end of a def's proof -/
theorem fin_D {t : TS} {Q : VK} {R : D → Prop} (le : Same G H) (k : IsL K G vs ds) (hq : ∀ v d G' H', Ext G H G' H' (fun _ => False) → Is K G' v d → R d → Q v H')
    (h : Xs ⟨K, G, H, fun _ => False⟩ t (ds.map .dat ++ List.replicate (N.length - ds.length) .un) { nx := fun _ => R .non, rt := fun d _ => R d }) : t { nx := fun _ H' => Q .non H', rt := Q } (start N vs) H :=
  h _ G H _ (start_sg le k _) (fun σ' G' H' ρ' s _ r => hq _ _ G' H' s.ext .non r) (fun v d σ' G' H' ρ' s kd r => hq v d G' H' s.ext kd r) (fun _ _ _ _ _ _ z => z.elim) (fun _ _ _ _ _ _ z => z.elim)
theorem fin_P {t : TS} {Q : VK} {R : D → Nat → Prop} {a : Addr} {k : Nat} (le : Same G H) (ga : G a = none) (pa : PotAt H a k) (kk : IsL K G vs ds) (hq : ∀ v d k' G' H', Ext G H G' H' (fun b => b = a) → G' a = none → PotAt H' a k' → Is K G' v d → R d k' → Q v H')
    (h : Xs ⟨K, G, H, fun b => b = a⟩ t (.pot a k :: (ds.map .dat ++ List.replicate (N.length - (ds.length + 1)) .un)) { nx := fun ρ' => ∃ k', ρ'[0]? = some (.pot a k') ∧ R .non k', rt := fun d ρ' => ∃ k', ρ'[0]? = some (.pot a k') ∧ R d k' }) : t { nx := fun _ H' => Q .non H', rt := Q } (start N (.ref a :: vs)) H := by
  refine h _ G H _ (start_sgP le ga pa kk _ rfl) (fun σ' G' H' ρ' s _ r => ?_) (fun v d σ' G' H' ρ' s kd r => ?_) (fun _ _ _ _ _ _ z => z.elim) (fun _ _ _ _ _ _ z => z.elim)
  · obtain ⟨k', e, r⟩ := r
    obtain ⟨o, ho, rfl, g1, g2, g3⟩ := s.sl 0 _ e
    exact hq _ _ k' G' H' s.ext g1 g2 .non r
  · obtain ⟨k', e, r⟩ := r
    obtain ⟨o, ho, rfl, g1, g2, g3⟩ := s.sl 0 _ e
    exact hq _ _ k' G' H' s.ext g1 g2 kd r
end
end DL
/-! defs that are called where nothing is being shown (repr) -/
namespace DL
open PySem PySem.Spec PyProof.Rows L2
variable [TabT]

/-- as FnOk, where no object is being shown -/
structure FnG (P : Program) (w : World) (K : PySem.W.Frag) (mg : Str → Option Value) (base : Heap) (CX : CXT) (k : Nat) (f : Addr) (fd : FuncData) (ps : List Str) (sp : Sp) : Prop where
  len : ∀ vs H Q E, sp vs H Q E → vs.length = ps.length
  run : ∀ (A : Around) (outer : List Env) (s : Shared) (H : Hp) (args : Args) (us : List Value) (vs : List V) (Q : VK) (E : XK), A.guards = some [] → Room k A → Env0 P w K mg base A outer s H → BindsTo s fd args (ps.zip us) → Vals vs us → sp vs H Q E →
    codeAny (model P w) A (.call (.ref f) args) (CR CX outer P w H s Q E) s
theorem FnG.mono {P : Program} {w : World} {K : PySem.W.Frag} {mg : Str → Option Value} {base : Heap} {CX : CXT} {j k : Nat} {f : Addr} {fd : FuncData} {ps : List Str} {sp : Sp} (F : FnG P w K mg base CX j f fd ps sp) (h : j ≤ k) :
    FnG P w K mg base CX k f fd ps sp := ⟨F.len, fun A outer s H args us vs Q E g hr => F.run A outer s H args us vs Q E g (hr.mono h)⟩

section
variable {X : Cx} {CX : CXT} {k : Nat} {f : Addr} {fd : FuncData} {ps : List Str} {sp : Sp} {dvs : List V} {ds : List Value} {E : XK} {x : Str} {p pos : Pos} {e : Expr} {es : List Expr} {t : TA}
theorem run_g {pins : List (Addr × Obj)} {σ : L2.St} {H : Hp} {s : Shared} {Q : VK} {us : List Value} {vs : List V} (gd : X.A.guards = some []) (F : FnG X.prog X.w X.K X.mg X.base CX k f fd ps sp) (hr : Room k X.A) (hb : Binds X.K fd ps ds) (hd : Vals dvs ds) (hx : Passes CX X E)
    (I : Inv X pins σ H s) (r : Vals vs us) (h : sp (vs ++ dvs) H Q E) : wpAny (model X.prog X.w) X.A (call (.ref f) us) (EP X pins σ Q) X.xe s := by
  have r2 := r.append hd
  have hl : (us ++ ds).length = ps.length := r2.length ▸ F.len _ _ _ _ h
  have key := F.run X.A X.stack s H ⟨us, []⟩ (us ++ ds) (vs ++ dvs) Q E gd hr I.env0 (hb s us I.kIn hl) r2 h
  refine wpAny_call (codeAny_mono key fun r s' hq => ?_)
  match r, hq with
  | .error e, hq => exact hx pins σ H s e s' I hq
  | .ok (.ret u), hq => exact I.after hq
/-- f(e, ..) -/
theorem pe_g (gd : X.A.guards = some []) (F : FnG X.prog X.w X.K X.mg X.base CX k f fd ps sp) (hr : Room k X.A) (hg : Gl X x) (hm : X.mg x = some (.ref f)) (hk : PySem.W.keepIn X.K (.ref f) = true) (hb : Binds X.K fd ps ds) (hd : Vals dvs ds) (hx : Passes CX X E)
    (ha : PA X (e :: es) t) (hdb : (x == ("__debug__" : Str)) = false := by decide) (he : starEach (e :: es) X.env = (false, eval e X.env) :: starEach es X.env := by rfl) (hpl : (backTo pos (starEach es X.env)).any (·.1) = false := by rfl) :
    PE X (.Call (.Name x p) (e :: es) [] pos) (tCall sp dvs E t) :=
  ⟨fun pins s σ H Q I h => wpAny_Call_Name_kw (ld_glob I hg hm (PySem.W.callWith_K (h₀ := X.base) I.ok.mod.kin hk (thn (ha.run pos pins s σ H _ I h) fun us s1 ⟨vs, H1, I1, r, q⟩ => ⟨I1.kIn, run_g gd F hr hb hd hx I1 r q⟩) he hpl) hdb)⟩
theorem pe_g0 (gd : X.A.guards = some []) (F : FnG X.prog X.w X.K X.mg X.base CX k f fd ps sp) (hr : Room k X.A) (hg : Gl X x) (hm : X.mg x = some (.ref f)) (hk : PySem.W.keepIn X.K (.ref f) = true) (hb : Binds X.K fd ps ds) (hd : Vals dvs ds) (hx : Passes CX X E)
    (hdb : (x == ("__debug__" : Str)) = false := by decide) : PE X (.Call (.Name x p) [] [] pos) (tCall sp dvs E tNil) :=
  ⟨fun pins s σ H Q I h => wpAny_Call_Name_kw (ld_glob I hg hm (PySem.W.callWith_K0 I.kIn hk (run_g (us := []) gd F hr hb hd hx I .nil h)) hdb)⟩
end

section
variable {P : Program} {w : World} {K : PySem.W.Frag} {mg : Str → Option Value} {base : Heap} {CX : CXT}
/-- a def, by its body -/
theorem fn_g {k : Nat} {f : Addr} {name qual : Str} {params : Arguments} {body : List Stmt} {scope : Scope} {dV kV doc pm cdv ct oc : Value} {an od : Option Addr}
    {osl : Array (Option Value)} {N ps : List Str} {sp : Sp} (lk : K.lookup f = some ⟨oc, od, .func (PySem.W.fnOf name qual params body scope dV kV doc pm an cdv ct), osl⟩) (hcd : PySem.W.codeIn K cdv qual = true) (S : FnScope N ps scope)
    (len : ∀ vs H Q E, sp vs H Q E → vs.length = ps.length)
    (hb : ∀ (A : Around) (outer : List Env) (s : Shared) (H : Hp) (vs : List V) (Q : VK) (E : XK), A.guards = some [] → Room k (A.deeper (envOfC qual scope s.heap.objs.size f cdv)) → sp vs H Q E →
      ∃ t, PSs (cxOf CX P w K mg base N qual scope f cdv A outer s H E) body t ∧ t { nx := fun _ H' => Q .non H', rt := Q } (L2.start N vs) H) :
    FnG P w K mg base CX (k + 1) f (PySem.W.fnOf name qual params body scope dV kV doc pm an cdv ct) ps sp := by
  refine ⟨len, fun A outer s H args us vs Q E gd hr e0 hbd r hsp => ?_⟩
  have kept : ∀ b o, base.get? b = some o → s.heap.get? b = some o := fun b o e => (e0.bs b o e).1
  have KX := e0.mod.kin.keeps kept
  have kinds : ∀ y ∈ ps.zip us, scope.names.lookup y.1 = some .local ∨ (scope.names.lookup y.1 = some .cell ∧ ((cellsFrom (s.heap.objs.size + 1) scope.names []).lookup y.1).isSome = true) := by
    rintro ⟨n, v⟩ hy
    exact (S.par n (List.of_mem_zip hy).1).imp id fun q => ⟨q, PySem.W.cellsFrom_some _ _ _ (.inl q)⟩
  refine codeAny_call_function hr.depth (KX _ _ lk) rfl S.co S.gen rfl (PySem.W.codeRec_of KX hcd) (hbd _ _ _ _ (wpAny_newFunctionEnv_cells S.kind kinds fun env he s1 x => ?_))
  subst he
  obtain ⟨t, ht, hq⟩ := hb A outer s H vs Q E gd (hr.deeper _) hsp
  have I := inv_start (CX := CX) (P := P) (mg := mg) (N := N) (cd := cdv) (E := E) S hr.hd e0 (len _ _ _ _ hsp) r x
  refine ⟨(e0.mod.nolimit.keeps kept).keeps x.toInCall.keep, codeAny_func (wpAny_mono (ht.run [] s1 _ H _ I hq) (fun fl s' hs => ?_) fun e s' hs => hs)⟩
  match fl, hs with
  | .ret u, ⟨v, σ', H', J, rv, q⟩ => exact ⟨v, H', J.os, J.bare, J.base, J.hok, rv, q⟩
  | .next, ⟨σ', H', J, q⟩ => exact ⟨V.non, H', J.os, J.bare, J.base, J.hok, rfl, q⟩
  | .brk, ⟨_, _, _, q⟩ => exact False.elim q
  | .cont, ⟨_, _, _, q⟩ => exact False.elim q
theorem okG {x qual : Str} {st : Stmt} {f : Addr} {fd : FuncData} {N ps : List Str} {k : Nat} {sp : Sp} (F : Fun K x qual st f fd) (S : FnScope N ps (defScope st)) (len : ∀ vs H Q E, sp vs H Q E → vs.length = ps.length)
    (hb : ∀ (cdv : Value) (A : Around) (outer : List Env) (s : Shared) (H : Hp) (vs : List V) (Q : VK) (E : XK), A.guards = some [] → Room k (A.deeper (envOfC qual (defScope st) s.heap.objs.size f cdv)) → sp vs H Q E →
      ∃ t, PSs (cxOf CX P w K mg base N qual (defScope st) f cdv A outer s H E) (defBody st) t ∧ t { nx := fun _ H' => Q .non H', rt := Q } (L2.start N vs) H) : FnG P w K mg base CX (k + 1) f fd ps sp := by
  obtain ⟨oc, od, kV, doc, pm, an, cdv, ct, osl, rfl, lk, hcd⟩ := F.ex
  exact fn_g lk hcd S len fun A outer s H vs Q E gd hr h => hb cdv A outer s H vs Q E gd hr h
end

/-! ### the law's own call -/
def scH (K : PySem.W.Frag) (a : Addr) (o : Obj) (xs : List V) : Hp := fun b => if b = a ∧ K.lookup a = none then some (.frz o (.lst xs)) else none
theorem scH_some {K : PySem.W.Frag} {a b : Addr} {o : Obj} {xs : List V} {u : HO} (h : scH K a o xs b = some u) : b = a ∧ K.lookup a = none ∧ u = .frz o (.lst xs) := by
  unfold scH at h
  by_cases c : b = a ∧ K.lookup a = none
  · rw [if_pos c] at h
    exact ⟨c.1, c.2, (Option.some.inj h).symm⟩
  · rw [if_neg c] at h
    cases h
theorem law_g {P : Program} {w : World} {K : PySem.W.Frag} {mg mb : Str → Option Value} {CX : CXT} {k : Nat} {fa a : Addr} {fd : FuncData} {x : Str} {sp : Sp} {s₁ : Shared} {vs : List Value} {ns : List Int}
    (KX : K.In s₁.heap) (hns : s₁.heap.Ns mainGlobals mg) (hb : s₁.heap.Ns builtinsNs mb) (hbb : ∀ x : Str, x ≠ "__name__" → mb x = bootBuiltins x) (hlim : s₁.heap.NoLimit) (hg : s₁.gens = #[])
    (ha : s₁.heap.get? a = some { cls := .type "list", data := .seq vs.toArray }) (hi : IntsAre vs ns) (hl : ns.length ≤ sizeLine) (hr : Room k callerA)
    (F : ∀ base : Heap, K.In base → base.Ns mainGlobals mg → FnG P w K mg base CX k fa fd [x] sp) (hbind : ∀ (s : Shared) (u : Value), BindsTo s fd ⟨[u], []⟩ [(x, u)])
    (hsp : ∀ H : Hp, Only H → SqL K H a (ns.map V.int) → sp [.ref a] H (fun v _ => v = .bl true) fun _ _ _ => False)
    (hCX : ∀ H e s', CX [] H s₁ (fun _ _ _ => False) e s' → False) :
    codeAny (model P w) callerA (.call (.ref fa) ⟨[.ref a], []⟩) (fun r s' => r = .ok (.ret (.bool true)) ∧ OldK s₁.heap s'.heap ∧ s'.os = s₁.os ∧ AllBare s'.gens) s₁ := by
  have rv := vals_ints hi
  obtain ⟨H, hH⟩ : ∃ H, H = scH K a { cls := .type "list", data := .seq vs.toArray } (ns.map V.int) := ⟨_, rfl⟩
  have some_ : ∀ {b : Addr} {u : HO}, H b = some u → b = a ∧ K.lookup a = none ∧ u = .frz { cls := .type "list", data := .seq vs.toArray } (.lst (ns.map V.int)) := fun e => scH_some (hH ▸ e)
  have only : Only H := fun b => by
    cases q : H b with
    | none => exact .inl rfl
    | some u =>
      obtain ⟨_, _, rfl⟩ := some_ q
      exact .inr ⟨_, _, rfl⟩
  have hok : HOk P w H s₁.heap := fun b u e => by
    obtain ⟨rfl, _, rfl⟩ := some_ e
    exact ⟨ha, by rw [List.length_map]; exact hl, vs, _, rv, ha⟩
  have hS : SqL K H a (ns.map V.int) := by
    cases hk : K.lookup a with
    | some o =>
      have e := KX a o hk
      rw [ha] at e
      cases e
      exact .inr ⟨_, vs.toArray, _, hk, rfl, rfl, rfl, by rw [List.size_toArray, hi.length]; exact hl, by simpa using rv⟩
    | none =>
      refine .inl (.inr ⟨{ cls := .type "list", data := .seq vs.toArray }, ?_⟩)
      rw [hH]
      exact if_pos ⟨rfl, hk⟩
  have dictFree : ∀ {b : Addr} {o : Obj} {es : Array DictEntry} {ep : Nat}, s₁.heap.get? b = some o → o.data = .dict es ep → H b = none := fun {b o es ep} e d => by
    cases q : H b with
    | none => rfl
    | some u =>
      obtain ⟨rfl, _, _⟩ := some_ q
      rw [ha] at e
      cases e
      exact nomatch (show Data.seq vs.toArray _ = Data.dict es ep from d)
  have nsB : ∀ {b : Addr} {m : Str → Option Value}, s₁.heap.Ns b m → (hidT s₁.heap H).Ns b m := fun ⟨o, es, ep, e, d, r⟩ => ⟨o, es, ep, hidT_get e (dictFree e d), d, r⟩
  have inB : K.In (hidT s₁.heap H) := fun b o e => hidT_get (KX b o e) (by
    cases q : H b with
    | none => rfl
    | some u =>
      obtain ⟨rfl, n, _⟩ := some_ q
      rw [n] at e
      cases e)
  have mod : Mod K mg (hidT s₁.heap H) := ⟨inB, nsB hns, ⟨mb, nsB hb, hbb⟩, let ⟨mc, h1, h2⟩ := hlim; ⟨mc, nsB h1, h2⟩⟩
  have none_ : ∀ {b : Addr} {P : Prop}, b ∈ ([] : List Addr) → P := fun h => absurd h (by simp)
  have e0 : Env0 P w K mg (hidT s₁.heap H) callerA [] s₁ H := ⟨rfl, mod, fun b o e => of_hidT e, Nat.le_of_eq (hidT_size _ _), trivial, fun b h => none_ h, hok, .of_eq hg⟩
  refine codeAny_mono ((F _ inB (nsB hns)).run callerA [] s₁ H ⟨[.ref a], []⟩ [.ref a] [.ref a] _ _ rfl hr e0 (hbind s₁ (.ref a)) (.cons rfl .nil) (hsp H only hS)) fun r s' h => ?_
  match r, h with
  | .error e, h => exact (hCX H e s' h).elim
  | .ok (.ret u), ⟨v, H', os, bare, un, hok', r', q⟩ =>
    have q' : v = .bl true := q
    subst q'
    obtain rfl : u = Value.bool true := r'
    refine ⟨rfl, OldK.of_keep fun b o e => ?_, os, bare⟩
    cases q : H b with
    | none => exact un.keep b o e q (fun z => none_ z) (fun z => none_ z)
    | some u =>
      obtain ⟨rfl, _, rfl⟩ := some_ q
      have e1 := (hok b _ q).1
      have e2 := (hok' b _ (un.frzs b _ _ q)).1
      rw [e] at e1
      cases e1
      exact e2
/-- the goal behind k_head, from the promise of the law's def -/
theorem walk_g {l : PySem.W.OpenLaw} {n k : Nat} {q : Program} {loose : List Str} {XP : (Str → Option Value) → Heap → Prop} {YP : World → Heap → Prop} {d : DefRec} {K : Params → PySem.W.Frag} {CX : World → CXT} {sp : World → Sp} {x : Str}
    (hn : l.most = some n) (hn2 : n ≤ sizeLine) (hdf : d.params.defaults = []) (hr : Room k callerA)
    (hY : ∀ (w : World) (h : Heap), YP w h → (K w.params).In h)
    (F : ∀ (w : World) (mg : Str → Option Value) (fa : Addr) (h : Heap), (K w.params).In h → h.Ns mainGlobals mg → mg d.name = some (.ref fa) →
      ∃ fd : FuncData, (∀ (s : Shared) (u : Value), BindsTo s fd ⟨[u], []⟩ [(x, u)]) ∧
        ∀ base : Heap, (K w.params).In base → base.Ns mainGlobals mg → FnG l.prog w (K w.params) mg base (CX w) k fa fd [x] (sp w))
    (hsp : ∀ (w : World) (H : Hp) (a : Addr) (ns : List Int), ns.length ≤ n → Only H → SqL (K w.params) H a (ns.map V.int) → sp w [.ref a] H (fun v _ => v = .bl true) fun _ _ _ => False)
    (hCX : ∀ (w : World) (H : Hp) (s : Shared) (e : Value) (s' : Shared), CX w [] H s (fun _ _ _ => False) e s' → False) :
    PySem.W.WalkO q loose XP YP l.row.toRowW d [] (fun f vs => PySem.call f vs) :=
  Att.attach_call hn hdf fun w s₀ s₁ mg mb fa o pm cd doc a vs ns G Y ho hd hcd hmg hobj hints hlen hg =>
    let ⟨fd, hb, hF⟩ := F w mg fa _ (hY w _ Y) G.T.g hmg
    law_g (hY w _ Y) G.T.g G.T.b G.T.builtins G.T.nolimit hg hobj hints (Nat.le_trans hlen hn2) hr hF hb (fun H hO hS => hsp w H a ns hlen hO hS) fun H e s' => hCX w H s₁ e s'
end DL
namespace DL
open PySem PySem.Spec PyProof.Rows L2
variable [TabT]

/-! ### data as the model's own plain data -/
mutual
def D.py : D → Option PyData
  | .non => some .none
  | .bl b => some (.bool b)
  | .int i => some (.int i)
  | .str x => some (.str x)
  | .tup ds => (D.pys ds).map .tuple
  | .lst ds => (D.pys ds).map .list
  | .val _ => none
  | .dic _ => none
  | .dct _ => none
  | .ins _ _ => none
  | .exc _ _ => none
  | .scr _ => none
def D.pys : List D → Option (List PyData)
  | [] => some []
  | d :: ds => match D.py d, D.pys ds with
    | some p, some ps => some (p :: ps)
    | _, _ => none
end
section
variable {K : PySem.W.Frag} {G H : Hp}
mutual
theorem Is.dp (le : Same G H) : ∀ {v : V} {d : D} {p : PyData}, Is K G v d → d.py = some p → Dp K H v p
  | _, _, _, .non, e => by
    cases e
    exact .non
  | _, _, _, .bl b, e => by
    cases e
    exact .bl b
  | _, _, _, .int i, e => by
    cases e
    exact .int i
  | _, _, _, .str x, e => by
    cases e
    exact .str x
  | _, _, _, .val v, e => by cases e
  | _, .tup ds, p, .tup h t, e => by
    cases q : D.pys ds with
    | none => simp [D.py, q] at e
    | some ps =>
      simp [D.py, q] at e
      subst e
      exact .tup (seqT_mono le h) (IsL.dp le t q)
  | _, .lst ds, p, .lst h t, e => by
    cases q : D.pys ds with
    | none => simp [D.py, q] at e
    | some ps =>
      simp [D.py, q] at e
      subst e
      exact .lst (.inl (.inl (le _ _ h))) (IsL.dp le t q)
  | _, _, _, .dic _ _, e => by cases e
  | _, _, _, .dct _ _, e => by cases e
  | _, _, _, .ins _ _, e => by cases e
  | _, _, _, .exc _ _ _, e => by cases e
  | _, _, _, .scr _, e => by cases e
theorem IsL.dp (le : Same G H) : ∀ {vs : List V} {ds : List D} {ps : List PyData}, IsL K G vs ds → D.pys ds = some ps → DpAll K H vs ps
  | _, _, _, .nil, e => by
    cases e
    exact .nil
  | _, d :: ds, ps, .cons h t, e => by
    cases q : D.py d with
    | none => simp [D.pys, q] at e
    | some p =>
      cases q' : D.pys ds with
      | none => simp [D.pys, q, q'] at e
      | some ps' =>
        simp [D.pys, q, q'] at e
        subst e
        exact .cons (Is.dp le h q) (IsL.dp le t q')
end
end

/-! ### repr -/
def rRepr (K : PySem.W.Frag) : List V → Hp → VK → Prop := fun xs H Q => ∃ x p, xs = [x] ∧ Dp K H x p ∧ p.showable = true ∧ p.hasDict = false ∧ p.shown.length ≤ sizeLine ∧ p.depth ≤ 60 ∧ Q (.str p.shown) H
theorem call_repr {X : Cx} (gd : X.A.guards = some []) (hu : X.A.units + 64 < cLine) : CallR X (.builtin "repr") (rRepr X.K) := by
  intro pins s σ H xs us Q I r h
  obtain ⟨x, p, rfl, hd, hs, hnd, hz, hdep, q⟩ := h
  have sz : p.shown.length ≤ sizeLine := hz
  cases r with
  | cons r rr =>
    cases rr
    rename_i u
    have key : wpAny (model X.prog X.w) X.A (PySem.call (.builtin "repr") [u]) (EP X pins σ Q) X.xe s := by
      cases hd with
      | non =>
        cases r
        exact PySem.P.repr_of_none ⟨.str _, H, I.tok _, ⟨_, rfl⟩, by simpa [PyData.shown] using q⟩
      | bl b =>
        cases r
        exact PySem.P.repr_of_bool ⟨.str _, H, I.tok _, ⟨_, rfl⟩, by simpa [PyData.shown] using q⟩
      | int i =>
        obtain ⟨t, rfl⟩ := r
        exact PySem.P.repr_of_int (by simpa [PyData.showable] using hs) ⟨.str _, H, I.tok _, ⟨_, rfl⟩, by simpa [PyData.shown] using q⟩
      | str x =>
        obtain ⟨t, rfl⟩ := r
        exact PySem.P.repr_of_str ⟨.str _, H, I.tok _, ⟨_, rfl⟩, by simpa [PyData.shown] using q⟩ (by simpa [PyData.shown] using sz)
      | lst h1 h2 =>
        cases r
        obtain ⟨as, hr⟩ := Dp.reads I _ _ _ (Dp.lst h1 h2) rfl
        exact repr_of_reads' hr hs (PyData.noDict_hsm hnd) gd (by omega) (fun _ _ e => e) (fun h' w tk hk => ⟨.str _, H, I.kept (t' := tk) hk, ⟨_, rfl⟩, q⟩) sz
      | tup h1 h2 =>
        cases r
        obtain ⟨as, hr⟩ := Dp.reads I _ _ _ (Dp.tup h1 h2) rfl
        exact repr_of_reads' hr hs (PyData.noDict_hsm hnd) gd (by omega) (fun _ _ e => e) (fun h' w tk hk => ⟨.str _, H, I.kept (t' := tk) hk, ⟨_, rfl⟩, q⟩) sz
    exact key

/-! ### operators by data -/
section
variable {K : PySem.W.Frag} {P : D → Prop}
abbrev none_ : Addr → Prop := fun _ => False
theorem rd_I0 {f : Int → Int → Int} {i j : Int} (h : P (.int (f i j))) : RD K (rI0 fun i j => .int (f i j)) (.int i) (.int j) P := fun G H v u Q le a b q => by
  cases a
  cases b
  exact ⟨i, j, rfl, rfl, q _ _ G H (Ext.refl le) h (.int _)⟩
theorem rd_I {c : Int → Int → Prop} {f : Int → Int → Int} {i j : Int} (hc : c i j) (h : P (.int (f i j))) : RD K (rI c fun i j => .int (f i j)) (.int i) (.int j) P := fun G H v u Q le a b q => by
  cases a
  cases b
  exact ⟨i, j, rfl, rfl, hc, q _ _ G H (Ext.refl le) h (.int _)⟩
theorem rd_B0 {f : Int → Int → Bool} {i j : Int} (h : P (.bl (f i j))) : RD K (rI0 fun i j => .bl (f i j)) (.int i) (.int j) P := fun G H v u Q le a b q => by
  cases a
  cases b
  exact ⟨i, j, rfl, rfl, q _ _ G H (Ext.refl le) h (.bl _)⟩
theorem rd_eq {x y : D} {p r : PyData} {K' : PySem.W.Frag} (e1 : x.py = some p) (e2 : y.py = some r) (s1 : SeqAt.shaped p = true) (s2 : SeqAt.shaped r = true) (h : P (.bl (PyData.eqv p r))) (hK : K' = K := by rfl) : RD K (rEqD K') x y P := fun G H v u Q le a b q => by
  subst hK
  exact ⟨p, r, a.dp le e1, b.dp le e2, s1, s2, q _ _ G H (Ext.refl le) h (.bl _)⟩
theorem rd_ne {x y : D} {p r : PyData} {K' : PySem.W.Frag} (e1 : x.py = some p) (e2 : y.py = some r) (s1 : SeqAt.shaped p = true) (s2 : SeqAt.shaped r = true) (h : P (.bl (!PyData.eqv p r))) (hK : K' = K := by rfl) : RD K (rNeD K') x y P := fun G H v u Q le a b q => by
  subst hK
  exact ⟨p, r, a.dp le e1, b.dp le e2, s1, s2, q _ _ G H (Ext.refl le) h (.bl _)⟩
theorem rd_ixL {ds : List D} {i : Int} {d : D} {K' : PySem.W.Frag} (h : ∃ k : Nat, i = (k : Int) ∧ ds[k]? = some d) (p : P d) (hK : K' = K := by rfl) : RD K (rIxL K') (.lst ds) (.int i) P := fun G H v u Q le a b q => by
  subst hK
  obtain ⟨k, rfl, hk⟩ := h
  cases b
  cases a with
  | lst h1 h2 =>
    obtain ⟨w, e1, e2⟩ := h2.get hk
    exact ⟨_, _, _, w, rfl, rfl, .inl (.inl (le _ _ h1)), atI_nat e1, q w d G H (Ext.refl le) p e2⟩
theorem rd_ixT {ds : List D} {i : Int} {d : D} {K' : PySem.W.Frag} (h : ∃ k : Nat, i = (k : Int) ∧ ds[k]? = some d) (p : P d) (hK : K' = K := by rfl) : RD K (rIxT K') (.tup ds) (.int i) P := fun G H v u Q le a b q => by
  subst hK
  obtain ⟨k, rfl, hk⟩ := h
  cases b
  cases a with
  | tup h1 h2 =>
    obtain ⟨w, e1, e2⟩ := h2.get hk
    exact ⟨_, _, _, w, rfl, rfl, seqT_mono le h1, atI_nat e1, q w d G H (Ext.refl le) p e2⟩
/-- a tuple and a tuple -/
theorem rd_catT {xs ys : List D} {K' : PySem.W.Frag} (hl : xs.length + ys.length ≤ 100000) (p : P (.tup (xs ++ ys))) (hK : K' = K := by rfl) : RD K (rCatA K') (.tup xs) (.tup ys) P := fun G H v u Q le a b q => by
  subst hK
  cases a with
  | tup a1 a2 =>
    cases b with
    | tup b1 b2 =>
      refine ⟨_, _, _, _, rfl, rfl, seqT_mono le a1, seqT_mono le b1, ?_, fun e => ?_, fun e1 e2 => ?_, fun e1 e2 c hc => ?_⟩
      · rw [a2.length, b2.length]
        exact Nat.le_trans hl (by decide)
      · subst e
        cases a2
        exact q _ _ G H (Ext.refl le) p (.tup b1 b2)
      · subst e2
        cases b2
        rw [List.append_nil] at p
        exact q _ _ G H (Ext.refl le) p (.tup a1 a2)
      · exact q _ _ _ _ (Ext.new le hc (.tup _)) p (.tup (.inl (.inl upd_same)) ((a2.mono (Ext.new (F := fun _ => False) le hc _).gg).append (b2.mono (Ext.new (F := fun _ => False) le hc _).gg)))
theorem rd_cat {xs ys : List D} (hl : xs.length + ys.length ≤ 100000) (p : P (.lst (xs ++ ys))) : RD K rCat (.lst xs) (.lst ys) P := fun G H v u Q le a b q => by
  cases a with
  | lst a1 a2 =>
    cases b with
    | lst b1 b2 =>
      refine ⟨_, _, _, _, rfl, rfl, le _ _ a1, le _ _ b1, ?_, fun c hc => ?_⟩
      · rw [a2.length, b2.length]
        exact Nat.le_trans hl (by decide)
      · exact q _ _ _ _ (Ext.new le hc (.lst _)) p (.lst upd_same ((a2.mono (Ext.new (F := fun _ => False) le hc _).gg).append (b2.mono (Ext.new (F := fun _ => False) le hc _).gg)))
end

/-! ### calls by data -/
section
variable {K : PySem.W.Frag} {P : D → Prop} {r : List V → Hp → VK → Prop}
theorem IsL.one {G : Hp} {vs : List V} {d : D} (h : IsL K G vs [d]) : ∃ v, vs = [v] ∧ Is K G v d := by
  cases h with
  | cons h t =>
    cases t
    exact ⟨_, rfl, h⟩
theorem IsL.two {G : Hp} {vs : List V} {d e : D} (h : IsL K G vs [d, e]) : ∃ v u, vs = [v, u] ∧ Is K G v d ∧ Is K G u e := by
  cases h with
  | cons h t =>
    obtain ⟨u, rfl, k⟩ := t.one
    exact ⟨_, u, rfl, h, k⟩
theorem Is.int_inv {G : Hp} {v : V} {i : Int} (h : Is K G v (.int i)) : v = .int i := by
  cases h
  rfl
theorem Is.bl_inv {G : Hp} {v : V} {b : Bool} (h : Is K G v (.bl b)) : v = .bl b := by
  cases h
  rfl
theorem rc_int {i : Int} (p : P (.int i)) : RC1 K (fun xs H Q => (∃ i, xs = [.int i] ∧ Q (.int i) H) ∨ ∃ k, xs = [.bl k] ∧ Q (.int (if k then 1 else 0)) H) [.int i] P := fun G H vs Q le a q => by
  obtain ⟨v, rfl, k⟩ := a.one
  cases k
  exact .inl ⟨i, rfl, q _ _ G H (Ext.refl le) p (.int _)⟩
theorem rc_intB {b : Bool} (p : P (.int (if b then 1 else 0))) : RC1 K (fun xs H Q => (∃ i, xs = [.int i] ∧ Q (.int i) H) ∨ ∃ k, xs = [.bl k] ∧ Q (.int (if k then 1 else 0)) H) [.bl b] P := fun G H vs Q le a q => by
  obtain ⟨v, rfl, k⟩ := a.one
  cases k
  exact .inr ⟨b, rfl, q _ _ G H (Ext.refl le) p (.int _)⟩
theorem rc_abs {i : Int} (p : P (.int (if i < 0 then -i else i))) : RC1 K (fun xs H Q => ∃ i, xs = [.int i] ∧ Q (.int (if i < 0 then -i else i)) H) [.int i] P := fun G H vs Q le a q => by
  obtain ⟨v, rfl, k⟩ := a.one
  cases k
  exact ⟨i, rfl, q _ _ G H (Ext.refl le) p (.int _)⟩
theorem rc_max2 {i j : Int} (p : P (.int (if j > i then j else i))) : RC1 K (fun xs H Q => ∃ i j, xs = [.int i, .int j] ∧ Q (.int (if j > i then j else i)) H) [.int i, .int j] P := fun G H vs Q le a q => by
  obtain ⟨v, u, rfl, k, l⟩ := a.two
  cases k
  cases l
  exact ⟨i, j, rfl, q _ _ G H (Ext.refl le) p (.int _)⟩
theorem rc_min2 {i j : Int} (p : P (.int (if j < i then j else i))) : RC1 K (fun xs H Q => ∃ i j, xs = [.int i, .int j] ∧ Q (.int (if j < i then j else i)) H) [.int i, .int j] P := fun G H vs Q le a q => by
  obtain ⟨v, u, rfl, k, l⟩ := a.two
  cases k
  cases l
  exact ⟨i, j, rfl, q _ _ G H (Ext.refl le) p (.int _)⟩
theorem rc_lenL {ds : List D} {K' : PySem.W.Frag} (p : P (.int ds.length)) (hK : K' = K := by rfl) : RC1 K (fun xs H Q => ∃ p ys, xs = [.ref p] ∧ (SqL K' H p ys ∨ SqT K' H p ys) ∧ Q (.int ys.length) H) [.lst ds] P := fun G H vs Q le a q => by
  subst hK
  obtain ⟨v, rfl, k⟩ := a.one
  cases k with
  | lst h1 h2 => exact ⟨_, _, rfl, .inl (.inl (.inl (le _ _ h1))), by rw [h2.length]; exact q _ _ G H (Ext.refl le) p (.int _)⟩
theorem rc_lenT {ds : List D} {K' : PySem.W.Frag} (p : P (.int ds.length)) (hK : K' = K := by rfl) : RC1 K (fun xs H Q => ∃ p ys, xs = [.ref p] ∧ (SqL K' H p ys ∨ SqT K' H p ys) ∧ Q (.int ys.length) H) [.tup ds] P := fun G H vs Q le a q => by
  subst hK
  obtain ⟨v, rfl, k⟩ := a.one
  cases k with
  | tup h1 h2 => exact ⟨_, _, rfl, .inr (seqT_mono le h1), by rw [h2.length]; exact q _ _ G H (Ext.refl le) p (.int _)⟩
theorem rc_gcd {i j : Int} (p : P (.int ((Nat.gcd i.natAbs j.natAbs : Nat) : Int))) : RC1 K rGcd [.int i, .int j] P := fun G H vs Q le a q => by
  obtain ⟨v, u, rfl, k, l⟩ := a.two
  cases k
  cases l
  exact ⟨i, j, rfl, q _ _ G H (Ext.refl le) p (.int _)⟩
theorem rc_repr {x : D} {p : PyData} {K' : PySem.W.Frag} (e : x.py = some p) (s : p.showable = true) (nd : p.hasDict = false) (hz : p.shown.length ≤ sizeLine) (hd : p.depth ≤ 60) (h : P (.str p.shown)) (hK : K' = K := by rfl) : RC1 K (rRepr K') [x] P := fun G H vs Q le a q => by
  subst hK
  obtain ⟨v, rfl, k⟩ := a.one
  exact ⟨v, p, rfl, k.dp le e, s, nd, hz, hd, q _ _ G H (Ext.refl le) h (.str _)⟩
/-- tuple(list), tuple(tuple) -/
theorem rc_tupL {ds : List D} {K' : PySem.W.Frag} (p : P (.tup ds)) (hK : K' = K := by rfl) : RC1 K (fun xs H Q => ∃ p ys, xs = [.ref p] ∧ ((SqL K' H p ys ∧ ∀ l, H l = none → Q (.ref l) (upd H l (.tup ys))) ∨ (SqT K' H p ys ∧ Q (.ref p) H))) [.lst ds] P := fun G H vs Q le a q => by
  subst hK
  obtain ⟨v, rfl, k⟩ := a.one
  cases k with
  | lst h1 h2 =>
    refine ⟨_, _, rfl, .inl ⟨.inl (.inl (le _ _ h1)), fun l hl => ?_⟩⟩
    exact q _ _ _ _ (Ext.new le hl (.tup _)) p (.tup (.inl (.inl upd_same)) (h2.mono (Ext.new (F := fun _ => False) le hl _).gg))
theorem rc_tupT {ds : List D} {K' : PySem.W.Frag} (p : P (.tup ds)) (hK : K' = K := by rfl) : RC1 K (fun xs H Q => ∃ p ys, xs = [.ref p] ∧ ((SqL K' H p ys ∧ ∀ l, H l = none → Q (.ref l) (upd H l (.tup ys))) ∨ (SqT K' H p ys ∧ Q (.ref p) H))) [.tup ds] P := fun G H vs Q le a q => by
  subst hK
  obtain ⟨v, rfl, k⟩ := a.one
  cases k with
  | tup h1 h2 => exact ⟨_, _, rfl, .inr ⟨seqT_mono le h1, q _ _ G H (Ext.refl le) p (.tup h1 h2)⟩⟩
theorem IsL.bls : ∀ {vs : List V} {bs : List Bool} {G : Hp}, IsL K G vs (bs.map .bl) → vs = bs.map V.bl
  | _, [], _, h => by
    cases h
    rfl
  | _, b :: bs, G, h => by
    cases h with
    | cons h t =>
      cases h
      rw [IsL.bls t]
      rfl
theorem rc_all {bs : List Bool} {K' : PySem.W.Frag} (p : P (.bl (bs.all id))) (hK : K' = K := by rfl) : RC1 K (rAll K') [.lst (bs.map .bl)] P := fun G H vs Q le a q => by
  subst hK
  obtain ⟨v, rfl, k⟩ := a.one
  cases k with
  | lst h1 h2 =>
    have e := h2.bls
    subst e
    exact ⟨_, bs, rfl, .inl (.inl (le _ _ h1)), q _ _ G H (Ext.refl le) p (.bl _)⟩
theorem rc_any {bs : List Bool} {K' : PySem.W.Frag} (p : P (.bl (bs.any id))) (hK : K' = K := by rfl) : RC1 K (rAny K') [.lst (bs.map .bl)] P := fun G H vs Q le a q => by
  subst hK
  obtain ⟨v, rfl, k⟩ := a.one
  cases k with
  | lst h1 h2 =>
    have e := h2.bls
    subst e
    exact ⟨_, bs, rfl, .inl (.inl (le _ _ h1)), q _ _ G H (Ext.refl le) p (.bl _)⟩
end
section
variable {C : Fx} {ρ : List Slot} {ta : TA}
/-- list(..) makes a new list -/
theorem en_list {K' : PySem.W.Frag} {P : List D → List Slot → Prop} (h : EvA C ta ρ fun ds ρ1 => ∃ xs, (ds = [.lst xs] ∨ ds = [.tup xs]) ∧ P xs ρ1) (hK : K' = C.K := by rfl) : EvN C (tCB (fun xs H Q => ∃ p ys, xs = [.ref p] ∧ (SqL K' H p ys ∨ SqT K' H p ys) ∧ ∀ l, H l = none → Q (.ref l) (upd H l (.lst ys))) ta) ρ P := fun σ G H Q S q => by
  subst hK
  refine h σ G H _ S fun vs ds G1 H1 ρ1 s1 p1 k1 => ?_
  obtain ⟨xs, e, p1⟩ := p1
  have go : ∀ {ys : List V}, IsL C.K G1 ys xs → ∀ l, H1 l = none → Q (.ref l) (upd H1 l (.lst ys)) := fun {ys} k l hl => by
    have n0 : H l = none := by
      cases z : H l with
      | none => rfl
      | some o =>
        obtain ⟨u, e⟩ := s1.ext.th l o z
        rw [hl] at e
        cases e
    exact q l ys xs G1 _ ρ1 (s1.trans (s1.st.keep (Ext.newM s1.st.le hl (.lst ys)))) p1 n0 (s1.st.le.free hl) upd_same k
  rcases e with rfl | rfl
  · obtain ⟨v, rfl, k⟩ := k1.one
    cases k with
    | lst h1 h2 => exact ⟨_, _, rfl, .inl (.inl (.inl (s1.st.le _ _ h1))), go h2⟩
  · obtain ⟨v, rfl, k⟩ := k1.one
    cases k with
    | tup h1 h2 => exact ⟨_, _, rfl, .inr (seqT_mono s1.st.le h1), go h2⟩
/-! ### slices -/
theorem eo_none {P : Option Int → List Slot → Prop} (h : P none ρ) : EvO C tNoPart ρ P := fun σ G H Q S q => q none G H ρ (Stp.refl S) h
theorem eo_some {te : TE} {P : Option Int → List Slot → Prop} (h : Ev C te ρ fun d ρ1 => ∃ i, d = .int i ∧ P (some i) ρ1) : EvO C (tPart te) ρ P := fun σ G H Q S q => by
  refine h σ G H _ S fun v d G1 H1 ρ1 s1 p1 k1 => ?_
  obtain ⟨i, rfl, p1⟩ := p1
  cases k1
  exact ⟨i, rfl, q _ G1 H1 ρ1 s1 p1⟩
end
end DL
namespace DL
open PySem PySem.Spec PyProof.Rows L2
variable [TabT]

/-! ### one rule a sign -/
section
variable {X : Cx}
abbrev rStrAdd : R2 := fun x y H Q => ∃ i j, x = .str i ∧ y = .str j ∧ i.length + j.length ≤ sizeLine ∧ Q (.str (i ++ j)) H
abbrev rPlus (K : PySem.W.Frag) : R2 := fun x y H Q => (rI0 fun i j => .int (i + j)) x y H Q ∨ (rCat x y H Q ∨ (rCatA K x y H Q ∨ rStrAdd x y H Q))
theorem op_plus : OpR X (binaryOp .Add) (rPlus X.K) := OpR.or op_add (OpR.or op_cat (OpR.or op_catA op_add_str))
abbrev CDivG (i j : Int) : Prop := j ≠ 0 ∧ j.natAbs.log2 < 9000
theorem op_fdivG : OpR X (binaryOp .FloorDiv) (rI CDivG fun i j => .int (i.fdiv j)) := opI fun i j _ _ _ _ _ hc q => floordiv_int hc.1 q (.inl (PyProof.noPylong_of_log2 hc.2))
abbrev rTimes (K : PySem.W.Frag) : R2 := fun x y H Q => (rI CMulW fun i j => .int (i * j)) x y H Q ∨ (rRep x y H Q ∨ rRepT K x y H Q)
theorem op_times : OpR X (binaryOp .Mult) (rTimes X.K) := OpR.or op_mulW (OpR.or op_rep op_repT)
abbrev CPowG (i j : Int) : Prop := 0 ≤ j ∧ (Builtin.Int.intBits i : Int) * j ≤ 2 ^ 27
theorem op_powG : OpR X (binaryOp .Pow) (rI CPowG fun i j => .int (i ^ j.toNat)) := opI fun i j _ _ _ _ _ hc q => pow_int hc.1 hc.2 q
abbrev rCut (K : PySem.W.Frag) : V → Option Int → Option Int → Hp → VK → Prop := fun x lo hi H Q => rSlL K x lo hi H Q ∨ (rSlA K x lo hi H Q ∨ rSlS x lo hi H Q)
theorem sl_cut : SlR X (rCut X.K) := SlR.or sl_list (SlR.or sl_tupA sl_str)
end

section
variable {K : PySem.W.Frag} {P : D → Prop}
theorem rd_or1 {r r' : R2} {x y : D} (h : RD K r x y P) : RD K (fun x y H Q => r x y H Q ∨ r' x y H Q) x y P := fun G H v u Q le a b q => .inl (h G H v u Q le a b q)
theorem rd_or2 {r r' : R2} {x y : D} (h : RD K r' x y P) : RD K (fun x y H Q => r x y H Q ∨ r' x y H Q) x y P := fun G H v u Q le a b q => .inr (h G H v u Q le a b q)
theorem rd_strAdd {x y : Str} (hl : x.length + y.length ≤ 100000) (p : P (.str (x ++ y))) : RD K rStrAdd (.str x) (.str y) P := fun G H v u Q le a b q => by
  cases a
  cases b
  exact ⟨x, y, rfl, rfl, Nat.le_trans hl (by decide), q _ _ G H (Ext.refl le) p (.str _)⟩
theorem plus_int {i j : Int} (p : P (.int (i + j))) : RD K (rPlus K) (.int i) (.int j) P := rd_or1 (rd_I0 (f := fun i j => i + j) p)
theorem plus_lst {xs ys : List D} (hl : xs.length + ys.length ≤ 100000) (p : P (.lst (xs ++ ys))) : RD K (rPlus K) (.lst xs) (.lst ys) P := rd_or2 (rd_or1 (rd_cat hl p))
theorem plus_tup {xs ys : List D} (hl : xs.length + ys.length ≤ 100000) (p : P (.tup (xs ++ ys))) : RD K (rPlus K) (.tup xs) (.tup ys) P := rd_or2 (rd_or2 (rd_or1 (rd_catT hl p)))
theorem plus_str {x y : Str} (hl : x.length + y.length ≤ 100000) (p : P (.str (x ++ y))) : RD K (rPlus K) (.str x) (.str y) P := rd_or2 (rd_or2 (rd_or2 (rd_strAdd hl p)))
theorem times_int {i j : Int} (hc : CMulW i j) (p : P (.int (i * j))) : RD K (rTimes K) (.int i) (.int j) P := rd_or1 (rd_I hc p)
/-- (x, ..) * n, n two or more -/
theorem rd_repT {xs : List D} {n : Int} (h0 : xs ≠ []) (h1 : 2 ≤ n) (h2 : n ≤ 1000) (h3 : xs.length ≤ 1000) (p : P (.tup (List.replicate n.toNat xs).flatten)) : RD K (rRepT K) (.tup xs) (.int n) P := fun G H v u Q le a b q => by
  cases b
  cases a with
  | @tup c0 ws _ a1 a2 =>
    refine ⟨_, n, ws, rfl, rfl, seqT_mono le a1, fun e => h0 ?_, h1, h2, by rw [a2.length]; exact h3, fun c hc => ?_⟩
    · subst e
      cases a2
      rfl
    · have ex := Ext.new (F := fun _ => False) le hc (.tup (List.replicate n.toNat ws).flatten)
      have k := a2.mono ex.gg
      refine q _ _ _ _ ex p (.tup (.inl (.inl upd_same)) ?_)
      generalize upd G c (.tup (List.replicate n.toNat ws).flatten) = G' at k
      induction n.toNat with
      | zero => exact .nil
      | succ m ih =>
        rw [List.replicate_succ, List.replicate_succ, List.flatten_cons, List.flatten_cons]
        exact k.append ih
theorem times_tup {xs : List D} {n : Int} (h0 : xs ≠ []) (h1 : 2 ≤ n) (h2 : n ≤ 1000) (h3 : xs.length ≤ 1000) (p : P (.tup (List.replicate n.toNat xs).flatten)) : RD K (rTimes K) (.tup xs) (.int n) P := rd_or2 (rd_or2 (rd_repT h0 h1 h2 h3 p))
theorem ix_lst {ds : List D} {i : Int} {d : D} (h : ∃ k : Nat, i = (k : Int) ∧ ds[k]? = some d) (p : P d) : RD K (rIx K) (.lst ds) (.int i) P := fun G H v u Q le a b q => .inl (rd_ixL h p rfl G H v u Q le a b q)
theorem ix_tupl {ds : List D} {i : Int} {d : D} (h : ∃ k : Nat, i = (k : Int) ∧ ds[k]? = some d) (p : P d) : RD K (rIx K) (.tup ds) (.int i) P := fun G H v u Q le a b q => .inr (.inl (rd_ixT h p rfl G H v u Q le a b q))
def cutD (ds : List D) (lo hi : Option Int) : List D := (ds.drop (HT.sIx ds.length 0 lo)).take (HT.sIx ds.length ds.length hi - HT.sIx ds.length 0 lo)
theorem IsL.cut {G : Hp} {vs : List V} {ds : List D} (h : IsL K G vs ds) (lo hi : Option Int) : IsL K G (cutV vs lo hi) (cutD ds lo hi) := by
  unfold cutV cutD
  rw [h.length]
  exact (h.drop _).take _
end
section
variable {C : Fx} {ρ : List Slot} {P : PD} {te : TE} {tl th : TO} {K' : PySem.W.Frag}
/-- x[lo:hi] -/
theorem ev_cut (h : Ev C te ρ fun x ρ1 => EvO C tl ρ1 fun l ρ2 => EvO C th ρ2 fun u ρ3 => (∃ ds, x = .lst ds ∧ P (.lst (cutD ds l u)) ρ3) ∨ (∃ ds, x = .tup ds ∧ P (.tup (cutD ds l u)) ρ3) ∨ ∃ z, x = .str z ∧ z.length ≤ 100000 ∧ P (.str (cutS z l u)) ρ3) (hK : K' = C.K := by rfl) : Ev C (tSl (rCut K') te tl th) ρ P := fun σ G H Q S q => by
  subst hK
  refine h σ G H _ S fun v x G1 H1 ρ1 s1 h1 i1 => h1 σ G1 H1 _ s1.st fun l G2 H2 ρ2 s2 h2 => h2 σ G2 H2 _ s2.st fun u G3 H3 ρ3 s3 h3 => ?_
  have i3 := (i1.mono s2.ext.gg).mono s3.ext.gg
  have s := (s1.trans s2).trans s3
  rcases h3 with ⟨ds, rfl, p⟩ | ⟨ds, rfl, p⟩ | ⟨z, rfl, hz, p⟩
  · cases i3 with
    | @lst _ ws _ k1 k2 =>
      refine .inl ⟨_, _, rfl, .inl (.inl (s3.st.le _ _ k1)), fun c hc => ?_⟩
      have ex := Ext.new (F := fun _ => False) s3.st.le hc (.lst (cutV ws l u))
      exact q _ _ _ _ ρ3 (s.trans (s3.st.keep ex)) p (.lst upd_same ((k2.mono ex.gg).cut l u))
  · cases i3 with
    | @tup _ ws _ k1 k2 =>
      refine .inr (.inl ⟨_, _, rfl, seqT_mono s3.st.le k1, fun e => ?_, fun e c hc => ?_⟩)
      · have e2 : cutD ds l u = ds := by
          unfold cutD
          rw [k2.length] at e
          rw [e.1, e.2]
          simp
        rw [e2] at p
        exact q _ _ G3 H3 ρ3 s p (.tup k1 k2)
      · have ex := Ext.new (F := fun _ => False) s3.st.le hc (.tup (cutV ws l u))
        exact q _ _ _ _ ρ3 (s.trans (s3.st.keep ex)) p (.tup (.inl (.inl upd_same)) ((k2.mono ex.gg).cut l u))
  · cases i3
    exact .inr (.inr ⟨z, rfl, Nat.le_trans hz (by decide), q _ _ G3 H3 ρ3 s p (.str _)⟩)
end

/-! ### isinstance -/
section
variable {K : PySem.W.Frag} {P : D → Prop}
def tyD : D → Option String
  | .non => some "NoneType"
  | .bl _ => some "bool"
  | .int _ => some "int"
  | .str _ => some "str"
  | .tup _ => some "tuple"
  | .lst _ => some "list"
  | .dic _ => some "dict"
  | _ => none
theorem SqT.ty {H : Hp} {a : Addr} {xs : List V} (h : SqT K H a xs) : TyX K H (.ref a) (.type "tuple") := by
  rcases h with (h | ⟨o, h⟩) | ⟨o, its, n, h1, h2, _⟩
  · exact .base (.tup h)
  · exact .fTuple h
  · exact .kTuple h1 h2
theorem Is.ty {G H : Hp} (le : Same G H) {v : V} {d : D} {n : String} (h : Is K G v d) (e : tyD d = some n) : TyX K H v (.type n) := by
  cases h with
  | non =>
    cases e
    exact .base .non
  | bl b =>
    cases e
    exact .base (.bl b)
  | int i =>
    cases e
    exact .base (.int i)
  | str x =>
    cases e
    exact .base (.str x)
  | val v => cases e
  | tup h1 h2 =>
    cases e
    exact SqT.ty (seqT_mono le h1)
  | lst h1 h2 =>
    cases e
    exact .base (.lst (le _ _ h1))
  | dic h1 h2 =>
    cases e
    exact .base (.dK (le _ _ h1))
  | dct _ _ => cases e
  | ins _ _ => cases e
  | exc _ _ _ => cases e
  | scr _ => cases e
/-- isinstance(x, a built-in class) -/
theorem rc_isi {x : D} {n m : String} {b : Bool} {K' : PySem.W.Frag} (e : tyD x = some n) (k : kitB n m = some b) (h : P (.bl b)) (hK : K' = K := by rfl) : RC1 K (rIsi K') [x, .val (.ty m)] P := fun G H vs Q le a q => by
  subst hK
  obtain ⟨v, u, rfl, k1, k2⟩ := a.two
  cases k2
  exact ⟨v, .ty m, _, _, b, rfl, .ty m, k1.ty le e, kit_ty k, q _ _ G H (Ext.refl le) h (.bl _)⟩
end

/-! ### calls by short words -/
/-- the module's name x is a def with this promise -/
def Cal (P : Program) (w : World) (K : PySem.W.Frag) (mg : Str → Option Value) (base : Heap) (CX : CXT) (k : Nat) (x : Str) (ps : List Str) (dvs : List V) (sp : Sp) : Prop :=
  ∃ f fd ds, FnG P w K mg base CX k f fd ps sp ∧ mg x = some (.ref f) ∧ PySem.W.keepIn K (.ref f) = true ∧ Binds K fd ps ds ∧ Vals dvs ds
section
variable {X : Cx} {CX : CXT} {k : Nat} {ps : List Str} {sp : Sp} {dvs : List V} {E : XK} {x : Str} {p pos : Pos} {e : Expr} {es : List Expr} {t : TA}
theorem pe_cal (h : Cal X.prog X.w X.K X.mg X.base CX k x ps dvs sp) (gd : X.A.guards = some []) (hr : Room k X.A) (hx : Passes CX X E) (ha : PA X (e :: es) t) (hg : Gl X x := by rfl) (hdb : (x == ("__debug__" : Str)) = false := by decide) (he : starEach (e :: es) X.env = (false, eval e X.env) :: starEach es X.env := by rfl) (hpl : (backTo pos (starEach es X.env)).any (·.1) = false := by rfl) :
    PE X (.Call (.Name x p) (e :: es) [] pos) (tCall sp dvs E t) := by
  obtain ⟨f, fd, ds, F, hm, hk, hb, hd⟩ := h
  exact pe_g gd F hr hg hm hk hb hd hx ha hdb he hpl
theorem pe_cal0 (h : Cal X.prog X.w X.K X.mg X.base CX k x ps dvs sp) (gd : X.A.guards = some []) (hr : Room k X.A) (hx : Passes CX X E) (hg : Gl X x := by rfl) (hdb : (x == ("__debug__" : Str)) = false := by decide) : PE X (.Call (.Name x p) [] [] pos) (tCall sp dvs E tNil) := by
  obtain ⟨f, fd, ds, F, hm, hk, hb, hd⟩ := h
  exact pe_g0 gd F hr hg hm hk hb hd hx hdb
end
end DL
namespace DL
open PySem PySem.Spec PyProof.Rows L2
variable [TabT]

/-- no name of a built-in is bound by the text -/
structure Bt (mg : Str → Option Value) : Prop where
  b_len : mg "len" = none
  b_abs : mg "abs" = none
  b_max : mg "max" = none
  b_min : mg "min" = none
  b_all : mg "all" = none
  b_any : mg "any" = none
  b_isinstance : mg "isinstance" = none
  b_repr : mg "repr" = none
  b_int : mg "int" = none
  b_bool : mg "bool" = none
  b_str : mg "str" = none
  b_tuple : mg "tuple" = none
  b_list : mg "list" = none
  b_dict : mg "dict" = none
  b_range : mg "range" = none
  b_zip : mg "zip" = none
  b_enumerate : mg "enumerate" = none
  b_set : mg "set" = none
  b_sorted : mg "sorted" = none
  b_sum : mg "sum" = none
theorem bt_len : bootBuiltins "len" = some (.builtin "len") := by decide +kernel
theorem bt_abs : bootBuiltins "abs" = some (.builtin "abs") := by decide +kernel
theorem bt_max : bootBuiltins "max" = some (.builtin "max") := by decide +kernel
theorem bt_min : bootBuiltins "min" = some (.builtin "min") := by decide +kernel
theorem bt_all : bootBuiltins "all" = some (.builtin "all") := by decide +kernel
theorem bt_any : bootBuiltins "any" = some (.builtin "any") := by decide +kernel
theorem bt_isinstance : bootBuiltins "isinstance" = some (.builtin "isinstance") := by decide +kernel
theorem bt_repr : bootBuiltins "repr" = some (.builtin "repr") := by decide +kernel
theorem bt_int : bootBuiltins "int" = some (.type "int") := by decide +kernel
theorem bt_bool : bootBuiltins "bool" = some (.type "bool") := by decide +kernel
theorem bt_str : bootBuiltins "str" = some (.type "str") := by decide +kernel
theorem bt_tuple : bootBuiltins "tuple" = some (.type "tuple") := by decide +kernel
theorem bt_list : bootBuiltins "list" = some (.type "list") := by decide +kernel
theorem bt_dict : bootBuiltins "dict" = some (.type "dict") := by decide +kernel

section
variable {K : PySem.W.Frag} {P : D → Prop}
theorem ru_neg {i : Int} (p : P (.int (-i))) : RU1 K (rU fun i => .int (-i)) (.int i) P := fun G H v Q le a q => by
  cases a
  exact ⟨i, rfl, q _ _ G H (Ext.refl le) p (.int _)⟩
theorem rd_isN {x : D} {b : Bool} (h : ∀ (G : Hp) (v : V), Is K G v x → decide (v = .non) = b) (p : P (.bl b)) : RD K (fun x y H Q => y = .non ∧ Q (.bl (decide (x = .non))) H) x .non P := fun G H v u Q le a c q => by
  cases c
  refine ⟨rfl, ?_⟩
  rw [h G v a]
  exact q _ _ G H (Ext.refl le) p (.bl _)
theorem rd_notN {x : D} {b : Bool} (h : ∀ (G : Hp) (v : V), Is K G v x → decide (v = .non) = b) (p : P (.bl (!b))) : RD K (fun x y H Q => y = .non ∧ Q (.bl (!decide (x = .non))) H) x .non P := fun G H v u Q le a c q => by
  cases c
  refine ⟨rfl, ?_⟩
  rw [h G v a]
  exact q _ _ G H (Ext.refl le) p (.bl _)
theorem isN_non {G : Hp} {v : V} (h : Is K G v .non) : decide (v = .non) = true := by
  cases h
  rfl
theorem isN_tup {G : Hp} {v : V} {ds : List D} (h : Is K G v (.tup ds)) : decide (v = .non) = false := by
  cases h
  rfl
theorem isN_lst {G : Hp} {v : V} {ds : List D} (h : Is K G v (.lst ds)) : decide (v = .non) = false := by
  cases h
  rfl
/-- len of a text, a list, a tuple -/
abbrev rLenA (K : PySem.W.Frag) : List V → Hp → VK → Prop := fun xs H Q => (∃ p ys, xs = [.ref p] ∧ (SqL K H p ys ∨ SqT K H p ys) ∧ Q (.int ys.length) H) ∨ (∃ z, xs = [.str z] ∧ z.length ≤ sizeLine ∧ Q (.int z.length) H)
theorem len_lst {ds : List D} (p : P (.int ds.length)) : RC1 K (rLenA K) [.lst ds] P := fun G H vs Q le a q => .inl (rc_lenL p rfl G H vs Q le a q)
theorem len_tup {ds : List D} (p : P (.int ds.length)) : RC1 K (rLenA K) [.tup ds] P := fun G H vs Q le a q => .inl (rc_lenT p rfl G H vs Q le a q)
theorem len_str {z : Str} (hz : z.length ≤ 100000) (p : P (.int z.length)) : RC1 K (rLenA K) [.str z] P := fun G H vs Q le a q => by
  obtain ⟨v, rfl, k⟩ := a.one
  cases k
  exact .inr ⟨z, rfl, Nat.le_trans hz (by decide), q _ _ G H (Ext.refl le) p (.int _)⟩
end
section
variable {C : Fx} {ρ : List Slot} {ta : TA} {te : TE}
/-- list(range(n)) -/
theorem en_listRg {P : List D → List Slot → Prop} (h : Ev C te ρ fun d ρ1 => ∃ n : Nat, d = .int (n : Int) ∧ n ≤ 100000 ∧ P (intsD 0 n) ρ1) : EvN C (tLstRg (tRg1 te)) ρ P := fun σ G H Q S q => by
  refine h σ G H _ S fun v d G1 H1 ρ1 s1 p1 k1 => ?_
  obtain ⟨n, rfl, hn, p1⟩ := p1
  cases k1
  refine ⟨n, rfl, ⟨by omega, by omega, by omega, by omega, by omega⟩, fun l hl => ?_⟩
  have n0 : H l = none := by
    cases z : H l with
    | none => rfl
    | some o =>
      obtain ⟨u, e⟩ := s1.ext.th l o z
      rw [hl] at e
      cases e
  refine q l (rgV 0 n) (intsD 0 n) G1 _ ρ1 (s1.trans (s1.st.keep (Ext.newM s1.st.le hl _))) p1 n0 (s1.st.le.free hl) upd_same ?_
  have key : ∀ (m : List Nat), IsL C.K G1 (m.map fun (i : Nat) => V.int (0 + (i : Int))) (m.map fun (k : Nat) => D.int (0 + (k : Int))) := fun m => by
    induction m with
    | nil => exact .nil
    | cons x m ih => exact .cons (.int _) ih
  have := key (List.range n)
  unfold rgV intsD
  rw [show ((n : Int) - 0).toNat = n by omega]
  exact this
end

/-- a def of the text, with its defaults -/
theorem okGD {P : Program} {w : World} {K : PySem.W.Frag} {mg : Str → Option Value} {base : Heap} {CX : CXT} {x qual : Str} {st : Stmt} {dvs : List V} {f : Addr} {fd : FuncData} {N ps : List Str} {k : Nat} {sp : Sp} (F : FunD K x qual (defArgs st) (defBody st) (defScope st) dvs [] f fd) (S : FnScope N ps (defScope st)) (len : ∀ vs H Q E, sp vs H Q E → vs.length = ps.length)
    (hb : ∀ (cdv : Value) (A : Around) (outer : List Env) (s : Shared) (H : Hp) (vs : List V) (Q : VK) (E : XK), A.guards = some [] → Room k (A.deeper (envOfC qual (defScope st) s.heap.objs.size f cdv)) → sp vs H Q E →
      ∃ t, PSs (cxOf CX P w K mg base N qual (defScope st) f cdv A outer s H E) (defBody st) t ∧ t { nx := fun _ H' => Q .non H', rt := Q } (L2.start N vs) H) : FnG P w K mg base CX (k + 1) f fd ps sp := by
  obtain ⟨oc, od, dV, kV, doc, pm, an, cdv, ct, osl, rfl, lk, hcd, _, _⟩ := F.ex
  exact fn_g lk hcd S len fun A outer s H vs Q E gd hr h => hb cdv A outer s H vs Q E gd hr h
/-- a promise over data has its arguments' number -/
theorem spD_len {K : PySem.W.Frag} {f : FS} {n : Nat} (h : ∀ ds R Z, f ds R Z → ds.length = n) : ∀ vs H Q E, spD K f vs H Q E → vs.length = n := fun vs H Q E ⟨G, ds, R, Z, _, k, hf, _⟩ => by
  rw [k.length]
  exact h ds R Z hf
theorem spP_len {K : PySem.W.Frag} {f : FP} {n : Nat} (h : ∀ k ds R Z, f k ds R Z → ds.length + 1 = n) : ∀ vs H Q E, spP K f vs H Q E → vs.length = n := fun vs H Q E ⟨a, ws, G, ds, k, R, Z, e, _, _, _, kk, hf, _⟩ => by
  rw [e, List.length_cons, kk.length]
  exact h k ds R Z hf
end DL
namespace DL
open PySem PySem.Spec PyProof.Rows L2
variable [TabT]
theorem tup_times1 (l : Addr) (items : Array Value) (n : Nat) (dd : Option Addr) (sl : Array (Option Value)) (u : Tok) :
    Meets (Builtin.«tuple.__mul__» ⟨[.ref l, .int 1 u], []⟩) (fun _ R s => s.heap.get? l = some { cls := .type "tuple", dict := dd, data := .seq items n, slots := sl } ∧ R (.ok (.ret (.ref l))) s) :=
  .of_wp fun prog w A R s h => by
    obtain ⟨hp, g, d, tk, os⟩ := s
    obtain ⟨hl, h⟩ := h
    have f1 := AutoSeq1.idx_int
    wp_walk using wpAny_loadPart' hl
    exact ⟨_, rfl, h⟩
theorem tup_times0 (l : Addr) (items : Array Value) (n : Nat) (dd : Option Addr) (sl : Array (Option Value)) (u : Tok) (ne : items.isEmpty = false) :
    Meets (Builtin.«tuple.__mul__» ⟨[.ref l, .int 0 u], []⟩) (fun _ R s => s.heap.get? l = some { cls := .type "tuple", dict := dd, data := .seq items n, slots := sl } ∧
      R (.ok (.ret (Value.ref s.heap.objs.size))) { s with heap := s.heap.push { cls := Value.type "tuple", data := Data.seq #[] }, toks := s.toks }) :=
  .of_wp fun prog w A R s h => by
    obtain ⟨hp, g, d, tk, os⟩ := s
    obtain ⟨hl, h⟩ := h
    have f1 := AutoSeq1.idx_int
    have c1 : (items.isEmpty || (0 : Int) == 1) = false := by rw [ne]; rfl
    wp_walk using wpAny_loadPart' hl
    repeat (first
      | (refine wpAny_ite_false (decide_eq_false (by rw [c1]; exact Bool.false_ne_true)) ?_; wp_walk using wpAny_loadPart' hl))
    exact ⟨_, rfl, h⟩
def rRep01 (K : PySem.W.Frag) : R2 := fun x y H Q => ∃ l k xs, x = .ref l ∧ y = .int k ∧ SqT K H l xs ∧ xs ≠ [] ∧ ((k = 1 ∧ Q (.ref l) H) ∨ (k = 0 ∧ ∀ p, H p = none → Q (.ref p) (upd H p (.tup []))))
theorem op_rep01 {X : Cx} : OpR X (binaryOp .Mult) (rRep01 X.K) := by
  intro pins s σ H x y v u Q I rx ry h
  obtain ⟨l, k, xs, rfl, rfl, hT, hne, h⟩ := h
  cases rx
  obtain ⟨t, rfl⟩ := ry
  obtain ⟨its, r, ⟨⟨cls, dd, data, sl⟩, ho, hc, n, hd⟩, hs⟩ := I.tuple hT
  simp only at hc hd
  subst hc hd
  have ie : its.toArray.isEmpty = false := by
    cases its with
    | nil =>
      cases r
      exact absurd rfl hne
    | cons a b => rfl
  rcases h with ⟨rfl, q⟩ | ⟨rfl, q⟩
  · exact wpAny_binaryOp_repeat_ref (T := "tuple") (U := "int") (by decide) ⟨_, ho, rfl⟩ (fun s' => typeIs_int s' 1 t) noFill_tuple_mul F.fills_int_mul F.slot_int_rmul repeat_tuple F.slot_int_index.lookup
      (call_meets F.slot_int_rmul (typeIs_int s 1 t) F.entry_int_rmul (F.args_int_rmul_2 _ _) (int_rmul_tuple 1 t l its.toArray n dd sl)
        ⟨ho, rfl, ⟨_, ho, rfl⟩, call_meets F.slot_tuple_mul ⟨_, ho, rfl⟩ F.entry_tuple_mul (F.args_tuple_mul_2 _ _) (tup_times1 l its.toArray n dd sl t) ⟨ho, .ref l, H, I, rfl, q⟩⟩)
  · exact wpAny_binaryOp_repeat_ref (T := "tuple") (U := "int") (by decide) ⟨_, ho, rfl⟩ (fun s' => typeIs_int s' 0 t) noFill_tuple_mul F.fills_int_mul F.slot_int_rmul repeat_tuple F.slot_int_index.lookup
      (call_meets F.slot_int_rmul (typeIs_int s 0 t) F.entry_int_rmul (F.args_int_rmul_2 _ _) (int_rmul_tuple 0 t l its.toArray n dd sl)
        ⟨ho, rfl, ⟨_, ho, rfl⟩, call_meets F.slot_tuple_mul ⟨_, ho, rfl⟩ F.entry_tuple_mul (F.args_tuple_mul_2 _ _) (tup_times0 l its.toArray n dd sl t ie)
          ⟨ho, .ref s.heap.objs.size, _, I.laid (t' := s.toks) (o := .tup []) (fun b ob q => Heap.get?_push_of_some _ q) (Nat.le_refl _) ⟨Nat.zero_le _, [], .nil, IsTup.new _ _⟩, rfl, q _ (I.hok.fresh (Nat.le_refl _))⟩⟩)
abbrev rTimesA (K : PySem.W.Frag) : R2 := fun x y H Q => rTimes K x y H Q ∨ rRep01 K x y H Q
theorem op_timesA {X : Cx} : OpR X (binaryOp .Mult) (rTimesA X.K) := OpR.or op_times op_rep01
section
variable {K : PySem.W.Frag} {P : D → Prop}
theorem mul_int {i j : Int} (hc : CMulW i j) (p : P (.int (i * j))) : RD K (rTimesA K) (.int i) (.int j) P := rd_or1 (times_int hc p)
/-- (x, ..) * n -/
theorem mul_tup {xs : List D} {n : Nat} (h0 : xs ≠ []) (h2 : n ≤ 1000) (h3 : xs.length ≤ 1000) (p : P (.tup (List.replicate n xs).flatten)) : RD K (rTimesA K) (.tup xs) (.int (n : Int)) P := by
  by_cases h1 : 2 ≤ n
  · exact rd_or1 (times_tup h0 (by omega) (by omega) h3 (by simpa using p))
  · refine rd_or2 fun G H v u Q le a b q => ?_
    cases b
    cases a with
    | @tup c ws _ a1 a2 =>
      refine ⟨c, n, ws, rfl, rfl, seqT_mono le a1, fun e => h0 ?_, ?_⟩
      · subst e
        cases a2
        rfl
      · by_cases hn : n = 1
        · subst hn
          exact .inl ⟨rfl, q _ _ G H (Ext.refl le) p (by simpa using Is.tup a1 a2)⟩
        · have hn : n = 0 := by omega
          subst hn
          exact .inr ⟨rfl, fun d hd => q _ _ _ _ (Ext.new le hd (.tup [])) p (.tup (.inl (.inl upd_same)) .nil)⟩
end
end DL
namespace DL
open PySem PySem.Spec PyProof.Rows L2
variable [TabT]

/-! ### the script -/
section
variable {K : PySem.W.Frag} {P : D → Prop}
theorem len_scr {ns : List Int} (p : P (.int ns.length)) : RC1 K (rLenA K) [.scr ns] P := fun G H vs Q le a q => by
  obtain ⟨v, rfl, k⟩ := a.one
  cases k with
  | scr h => exact .inl ⟨_, _, rfl, .inl (seqL_mono le h), by rw [List.length_map]; exact q _ _ G H (Ext.refl le) p (.int _)⟩
theorem ix_scr {ns : List Int} {i n : Int} (h : ∃ k : Nat, i = (k : Int) ∧ ns[k]? = some n) (p : P (.int n)) : RD K (rIx K) (.scr ns) (.int i) P := fun G H v u Q le a b q => by
  obtain ⟨k, rfl, hk⟩ := h
  cases b
  cases a with
  | scr h => exact .inl ⟨_, _, _, .int n, rfl, rfl, seqL_mono le h, atI_nat (by rw [List.getElem?_map, hk]; rfl), q _ _ G H (Ext.refl le) p (.int _)⟩
end

/-! ### what one draws from -/
/-- a def that makes a new list to draw from -/
def spN (K : PySem.W.Frag) (f : List D → Prop) : Sp := fun vs H Q _ => ∃ G ds, Same G H ∧ IsL K G vs ds ∧ f ds ∧ ∀ p G' H', Ext G H G' H' (fun _ => False) → H p = none → G' p = none → PotAt H' p 0 → Q (.ref p) H'
/-- te makes such a list -/
def EvQ (C : Fx) (te : TE) (ρ : List Slot) (P : List Slot → Prop) : Prop := ∀ (σ : L2.St) (G H : Hp) (Q : VK), Sg C G H σ ρ → (∀ p G' H' ρ', Stp C G H σ ρ G' H' ρ' → P ρ' → H p = none → G' p = none → PotAt H' p 0 → Q (.ref p) H') → te σ H Q
section
variable {C : Fx} {ρ : List Slot} {ta : TA} {te : TE} {E : XK} {Z : Addr → D → Prop} {po : Po} {i : Nat}
theorem eq_call {K' : PySem.W.Frag} {f : List D → Prop} {P : List Slot → Prop} (h : EvA C ta ρ fun ds ρ1 => f ds ∧ P ρ1) (hK : K' = C.K := by rfl) : EvQ C (tCall (spN K' f) [] E ta) ρ P := fun σ G H Q S q => by
  subst hK
  refine h σ G H _ S fun vs ds G1 H1 ρ1 s1 p1 k1 => ?_
  refine ⟨G1, ds, s1.st.le, by rw [List.append_nil]; exact k1, p1.1, fun p G' H' e n g pt => ?_⟩
  have n0 : H p = none := by
    cases z : H p with
    | none => rfl
    | some o =>
      obtain ⟨u, e⟩ := s1.ext.th p o z
      rw [n] at e
      cases e
  exact q p G' H' ρ1 (s1.trans (s1.st.keep e)) p1.2 n0 g pt
/-- slot i holds it now -/
theorem Sg.setQ {G H : Hp} {σ : L2.St} {p : Addr} {k : Nat} (S : Sg C G H σ ρ) (g : G p = none) (h : PotAt H p k) (h0 : C.H0 p = none) (nf : ∀ j, j ≠ i → ¬ Mt σ ρ j p) : Sg C G H (σ.set i (some (.ref p))) (ρ.set i (.pot p k)) := by
  refine ⟨S.ext, by rw [List.length_set, List.length_set, S.len], fun j s hs => ?_, fun j l a h1 h2 => ?_⟩
  · by_cases hj : j = i
    · subst hj
      have hl : j < ρ.length := by
        have := (List.getElem?_eq_some_iff.mp hs).1
        rwa [List.length_set] at this
      rw [List.getElem?_set_self hl] at hs
      cases hs
      exact ⟨_, List.getElem?_set_self (by rw [S.len]; exact hl), rfl, g, h, .inr h0⟩
    · rw [List.getElem?_set_ne (Ne.symm hj)] at hs ⊢
      exact S.sl j s hs
  · have key : ∀ {j : Nat} {a : Addr}, Mt (σ.set i (some (.ref p))) (ρ.set i (.pot p k)) j a → j = i → a = p := fun {j a} h e => by
      subst e
      have h1 := h.1
      have hl : j < σ.length := by
        have := h.lt
        rwa [List.length_set] at this
      rw [List.getElem?_set_self hl] at h1
      cases h1
      rfl
    by_cases hj : j = i
    · by_cases hk : l = i
      · rw [hj, hk]
      · have e := key h1 hj
        subst e
        exact absurd (h2.ne hk) (nf l hk)
    · by_cases hk : l = i
      · have e := key h2 hk
        subst e
        exact absurd (h1.ne hj) (nf j hj)
      · exact S.dis j l a (h1.ne hj) (h2.ne hk)
/-- x = pot(..) -/
theorem xs_pot (h : EvQ C te ρ fun ρ1 => ∀ p, po.nx (ρ1.set i (.pot p 0))) : Xs C (tAsg te (gName i)) ρ po := fun σ G H Dn S hn hr hb hc =>
  h σ G H _ S fun p G1 H1 ρ1 s1 p1 n g pt => hn _ G1 H1 _ (s1.st.setQ g pt (h0_none S n) fun j _ m => nomt S s1 n m) s1.ext.gg (p1 p)
/-- f(pot(..), ..) -/
theorem ev_callPN {K' : PySem.W.Frag} {f : FP} {P : PD} {dvs : List V} {es : List D} (hE : Flies C.K C.G0 C.H0 C.F0 Z E) (hd : ∀ G, IsL C.K G dvs es) (h : EvQ C te ρ fun ρ1 => EvA C ta ρ1 fun ds ρ2 => f 0 (ds ++ es) (fun d _ => P d ρ2) Z) (hK : K' = C.K := by rfl) :
    Ev C (tCall (spP K' f) dvs E (tCons te ta)) ρ P := fun σ G H Q S q => by
  subst hK
  refine h σ G H _ S fun p G1 H1 ρ1 s1 p1 n g pt => ?_
  refine p1 σ G1 H1 _ s1.st fun vs ds G2 H2 ρ2 s2 p2 k2 => ?_
  have nf : ¬ Fp σ ρ1 p := fun ⟨j, m⟩ => nomt S s1 n m
  obtain ⟨x, y, z, pz, pr⟩ := pt
  have g2 : G2 p = none := s2.ext.nf _ _ pz g nf
  have pt2 : PotAt H2 p 0 := ⟨x, y, z, s2.ext.fr _ _ pz (fun _ z => nomatch z) nf, pr⟩
  have s12 := s1.trans s2
  refine ⟨p, vs ++ dvs, G2, ds ++ es, 0, _, Z, rfl, s2.st.le, g2, pt2, k2.append (hd G2), p2, fun v d k' G' H' e gp ptp kd r => ?_, fun X dx v d G' H' e gx kk z => ?_⟩
  · -- the list that was drawn from is nobody's
    have nf2 : ∀ b, Fp σ ρ2 b → b ≠ p := fun b hb z => by
      subst z
      obtain ⟨_, ⟨xs, e⟩, _⟩ := S.fp_some (s12.sub _ hb)
      rw [n] at e
      cases e
    have ex : Ext G H G' H' (Fp σ ρ) := by
      refine ⟨s12.ext.gg.trans e.gg, e.gh, fun b o hb nt f => e.fr b o (s12.ext.fr b o hb nt f) nt (ne_of_none hb n), fun b o hb gb f => (by
        obtain ⟨u, hu⟩ := s12.ext.th b o hb
        exact e.nf b u hu (s12.ext.nf b o hb gb f) (ne_of_none hb n)), fun b o hb => ?_, fun t => e.tt (s12.ext.tt t), fun g => e.nt (s12.ext.nt g)⟩
      obtain ⟨u, hu⟩ := s12.ext.th b o hb
      exact e.th b u hu
    have nh0 : C.H0 p = none := h0_none S n
    refine q v d G' H' ρ2 ⟨ex, ⟨s12.st.ext.trans e fun b o hb z => ?_, s12.st.len, fun j s hs => ?_, s12.st.dis⟩, s12.sub⟩ r kd
    · subst z
      rw [nh0] at hb
      cases hb
    · obtain ⟨o, ho, qo⟩ := s12.st.sl j s hs
      refine ⟨o, ho, qo.move e.gg fun hm b u eb h nt g => ?_⟩
      subst eb
      have nb : b ≠ p := nf2 b ⟨j, ho, _, hs, hm⟩
      exact ⟨e.fr _ _ h nt nb, e.nf _ _ h g nb⟩
  · refine hE X dx v d G' H' (s12.st.ext.trans e fun b o hb z => ?_) gx kk z
    subst z
    rw [h0_none S n] at hb
    cases hb
end

/-! ### numbers -/
theorem mulW {i j : Int} {a b : Nat} (ha : i.natAbs < 2 ^ a) (hb : j.natAbs < 2 ^ b) (h : a + b ≤ 900000) : CMulW i j :=
  wide_mul (a := a + 1) (b := b + 1) (Nat.lt_of_lt_of_le ha (Nat.pow_le_pow_right (by decide) (Nat.le_succ _))) (Nat.lt_of_lt_of_le hb (Nat.pow_le_pow_right (by decide) (Nat.le_succ _))) (Nat.succ_pos _) (Nat.succ_pos _) (by omega)
theorem log2W {i : Int} {a n : Nat} (ha : i.natAbs < 2 ^ a) (h : a < n) : i.natAbs.log2 < n :=
  Nat.lt_of_lt_of_le (PySem.Flt.log2_lt_of (Nat.succ_pos a) (Nat.lt_of_lt_of_le ha (Nat.pow_le_pow_right (by decide) (Nat.le_succ _)))) (by omega)
theorem fdivG {i j : Int} {a : Nat} (h : j ≠ 0) (ha : j.natAbs < 2 ^ a) (h9 : a < 9000) : CDivG i j := ⟨h, log2W ha h9⟩
theorem powG {i j : Int} {a : Nat} (h : 0 ≤ j) (ha : i.natAbs < 2 ^ a) (h2 : ((a : Int) + 2) * j ≤ 2 ^ 27) : CPowG i j := by
  refine ⟨h, Int.le_trans (Int.mul_le_mul_of_nonneg_right ?_ h) h2⟩
  have : i.natAbs.log2 < a + 1 := log2W ha (Nat.lt_succ_self _)
  unfold Builtin.Int.intBits
  split <;> omega
theorem natAbs_lt {i : Int} {a : Nat} (h0 : -(2 ^ a : Int) < i) (h1 : i < 2 ^ a) : i.natAbs < 2 ^ a := by
  have e : ((2 ^ a : Nat) : Int) = (2 ^ a : Int) := by simp
  have : ((i.natAbs : Nat) : Int) < ((2 ^ a : Nat) : Int) := by
    rw [e]
    omega
  exact Int.ofNat_lt.mp this
end DL
namespace DL
variable [TabT]
theorem nbM {i : Int} {a b : Nat} (h : i.natAbs < 2 ^ a) (e : a ≤ b) : i.natAbs < 2 ^ b := Nat.lt_of_lt_of_le h (Nat.pow_le_pow_right (by decide) e)
theorem nbA {i j : Int} {a : Nat} (hi : i.natAbs < 2 ^ a) (hj : j.natAbs < 2 ^ a) : (i + j).natAbs < 2 ^ (a + 1) := by
  have e : 2 ^ (a + 1) = 2 ^ a + 2 ^ a := by rw [Nat.pow_succ]; omega
  rw [e]
  omega
theorem nbS {i j : Int} {a : Nat} (hi : i.natAbs < 2 ^ a) (hj : j.natAbs < 2 ^ a) : (i - j).natAbs < 2 ^ (a + 1) := by
  have e : 2 ^ (a + 1) = 2 ^ a + 2 ^ a := by rw [Nat.pow_succ]; omega
  rw [e]
  omega
theorem nbX {i j : Int} {a b : Nat} (hi : i.natAbs < 2 ^ a) (hj : j.natAbs < 2 ^ b) : (i * j).natAbs < 2 ^ (a + b) := L2.wide_lt hi hj
theorem fmod_rng {i j : Int} (h : 0 < j) : 0 ≤ i.fmod j ∧ i.fmod j < j := by
  rw [Int.fmod_eq_emod_of_nonneg _ (by omega)]
  exact ⟨Int.emod_nonneg _ (by omega), Int.emod_lt_of_pos _ h⟩
end DL
namespace DL
open PySem PySem.Spec PyProof.Rows L2
variable [TabT]
theorem xs_then {C : Fx} {t u : TS} {ρ : List Slot} {N : List Slot → Prop} {Dn : Ends} {σ : L2.St} {G H : Hp} (h : Xs C t ρ { nx := N, rt := fun _ _ => False }) (S : Sg C G H σ ρ) (k : ∀ σ' G' H' ρ', Sg C G' H' σ' ρ' → N ρ' → u Dn σ' H') : tSeq t u Dn σ H :=
  h σ G H { Dn with nx := u Dn } S (fun σ' G' H' ρ' s _ p => k σ' G' H' ρ' s p) (fun _ _ _ _ _ _ _ _ z => z.elim) (fun _ _ _ _ _ _ z => z.elim) fun _ _ _ _ _ _ z => z.elim
end DL
namespace DL
open PySem PySem.Spec PyProof.Rows L2
variable [TabT]
theorem rd_k {r : PySem.W.Frag → R2} {K K' : PySem.W.Frag} {x y : D} {P : D → Prop} (hK : K' = K) (h : RD K (r K) x y P) : RD K (r K') x y P := hK ▸ h
theorem rc_k {r : PySem.W.Frag → List V → Hp → VK → Prop} {K K' : PySem.W.Frag} {xs : List D} {P : D → Prop} (hK : K' = K) (h : RC1 K (r K) xs P) : RC1 K (r K') xs P := hK ▸ h
end DL
namespace DL
variable [TabT]
theorem bit_nb (b : Bool) : (if b = true then (1 : Int) else 0).natAbs < 2 ^ 2 := by cases b <;> decide
theorem bit_mul {x : Int} (h : 0 ≤ x) (b : Bool) : 0 ≤ x * (if b = true then (1 : Int) else 0) ∧ x * (if b = true then (1 : Int) else 0) ≤ x := by
  cases b
  · simp [h]
  · simp [h]
end DL
namespace DL
open PySem PySem.Spec PyProof.Rows L2
variable [TabT]
section
variable {C : Fx} {ρ : List Slot} {ta tb : TE} {po : Po} {i j : Nat}
theorem xs_parDD (h : Ev C ta ρ fun x ρ1 => Ev C tb ρ1 fun y ρ2 => po.nx ((ρ2.set i (.dat x)).set j (.dat y))) : Xs C (tPar i j (tCons ta (tCons tb tNil))) ρ po := fun σ G H Dn S hn hr hb hc => by
  refine h σ G H _ S fun v x G1 H1 ρ1 s1 p1 k1 => p1 σ G1 H1 _ s1.st fun u y G2 H2 ρ2 s2 p2 k2 => ?_
  exact ⟨v, u, rfl, hn _ G2 H2 _ ((s2.st.setD (k1.mono s2.ext.gg)).setD k2) (s1.ext.gg.trans s2.ext.gg) p2⟩
theorem xs_parDN (h : Ev C ta ρ fun x ρ1 => EvN C tb ρ1 fun ys ρ2 => po.nx ((ρ2.set i (.dat x)).set j (.own ys))) : Xs C (tPar i j (tCons ta (tCons tb tNil))) ρ po := fun σ G H Dn S hn hr hb hc => by
  refine h σ G H _ S fun v x G1 H1 ρ1 s1 p1 k1 => p1 σ G1 H1 _ s1.st fun q us ys G2 H2 ρ2 s2 p2 n g hq k2 => ?_
  refine ⟨v, .ref q, rfl, hn _ G2 H2 _ ((s2.st.setD (k1.mono s2.ext.gg)).setO g hq k2 (h0_none s1.st n) fun l hl m => ?_) (s1.ext.gg.trans s2.ext.gg) p2⟩
  exact nomt s1.st s2 n (mt_setD s2.st.len m)
theorem xs_parNN (hij : i ≠ j) (h : EvN C ta ρ fun xs ρ1 => EvN C tb ρ1 fun ys ρ2 => po.nx ((ρ2.set i (.own xs)).set j (.own ys))) : Xs C (tPar i j (tCons ta (tCons tb tNil))) ρ po := fun σ G H Dn S hn hr hb hc => by
  refine h σ G H _ S fun p vs xs G1 H1 ρ1 s1 p1 n1 g1 hp1 k1 => p1 σ G1 H1 _ s1.st fun q us ys G2 H2 ρ2 s2 p2 n2 g2 hp2 k2 => ?_
  have nf : ¬ Fp σ ρ1 p := fun ⟨l, m⟩ => nomt S s1 n1 m
  have e1 : H2 p = some (.lst vs) := s2.ext.fr _ _ hp1 (fun _ z => nomatch z) nf
  have f1 : G2 p = none := s2.ext.nf _ _ hp1 g1 nf
  have pq : q ≠ p := fun e => by
    rw [e] at n2
    rw [n2] at hp1
    cases hp1
  have S1 := s2.st.setO (i := i) f1 e1 (k1.mono s2.ext.gg) (h0_none S n1) fun l _ m => nomt S (s1.trans s2) n1 m
  refine ⟨.ref p, .ref q, rfl, hn _ G2 H2 _ (S1.setO (i := j) g2 hp2 k2 (h0_none s1.st n2) fun l hl m => ?_) (s1.ext.gg.trans s2.ext.gg) p2⟩
  by_cases hl2 : l = i
  · subst hl2
    have e := m.1
    by_cases hs : l < σ.length
    · rw [List.getElem?_set_self hs] at e
      cases e
      exact pq rfl
    · rw [List.getElem?_eq_none (by rw [List.length_set]; omega)] at e
      cases e
  · exact nomt s1.st s2 n2 (m.ne hl2)
end
end DL
namespace DL
variable [TabT]
/-! ### sums of fractions -/
abbrev Pq := Rat × Rat
def val (p : Pq) : Rat := p.1 * p.2
def sumP (ps : List Pq) : Rat := (ps.map val).foldl (· + ·) 0
theorem foldl_add (l : List Rat) (a : Rat) : l.foldl (· + ·) a = a + l.foldl (· + ·) 0 := by
  induction l generalizing a with
  | nil => simp [Rat.add_zero]
  | cons x l ih =>
    rw [List.foldl_cons, List.foldl_cons, ih (a + x), ih (0 + x), Rat.zero_add, Rat.add_assoc]
theorem sumP_nil : sumP [] = 0 := rfl
theorem sumP_cons (p : Pq) (ps : List Pq) : sumP (p :: ps) = val p + sumP ps := by
  unfold sumP
  rw [List.map_cons, List.foldl_cons, foldl_add, Rat.zero_add]
theorem sumP_append (ps qs : List Pq) : sumP (ps ++ qs) = sumP ps + sumP qs := by
  induction ps with
  | nil => rw [List.nil_append, sumP_nil, Rat.zero_add]
  | cons p ps ih => rw [List.cons_append, sumP_cons, sumP_cons, ih, Rat.add_assoc]
theorem sumP_perm {ps qs : List Pq} (h : ps.Perm qs) : sumP ps = sumP qs := by
  induction h with
  | nil => rfl
  | cons x _ ih => rw [sumP_cons, sumP_cons, ih]
  | swap x y l => rw [sumP_cons, sumP_cons, sumP_cons, sumP_cons, ← Rat.add_assoc, ← Rat.add_assoc, Rat.add_comm (val y)]
  | trans _ _ ih1 ih2 => exact ih1.trans ih2
theorem sumP_take {ps : List Pq} {i : Nat} {p : Pq} (h : ps[i]? = some p) : sumP (ps.take (i + 1)) = sumP (ps.take i) + val p := by
  rw [List.take_add_one, h, sumP_append]
  show sumP (ps.take i) + sumP [p] = _
  rw [sumP_cons, sumP_nil, Rat.add_zero]
/-- uncut -/
def stepU (s : Int × Nat) (p : Pq) : Int × Nat := (s.1 * ((p.1.den * p.2.den : Nat) : Int) + p.1.num * p.2.num * (s.2 : Int), s.2 * (p.1.den * p.2.den))
def unc (ps : List Pq) : Int × Nat := ps.foldl stepU (0, 1)
theorem unc_take {ps : List Pq} {i : Nat} {p : Pq} (h : ps[i]? = some p) : unc (ps.take (i + 1)) = stepU (unc (ps.take i)) p := by
  unfold unc
  rw [List.take_add_one, h]
  simp [List.foldl_append]
theorem step_val {s : Int × Nat} {p : Pq} (h : s.2 ≠ 0) : mkRat (stepU s p).1 (stepU s p).2 = mkRat s.1 s.2 + val p := by
  have e : val p = mkRat (p.1.num * p.2.num) (p.1.den * p.2.den) := by
    unfold val
    rw [← Rat.mkRat_mul_mkRat, Rat.mkRat_self, Rat.mkRat_self]
  rw [e, Rat.mkRat_add_mkRat _ _ h (Nat.mul_ne_zero p.1.den_nz p.2.den_nz)]
  rfl
theorem unc_val (ps : List Pq) : (unc ps).2 ≠ 0 ∧ mkRat (unc ps).1 (unc ps).2 = sumP ps := by
  have key : ∀ (ps : List Pq) (s : Int × Nat), s.2 ≠ 0 → (ps.foldl stepU s).2 ≠ 0 ∧ mkRat (ps.foldl stepU s).1 (ps.foldl stepU s).2 = mkRat s.1 s.2 + sumP ps := by
    intro ps
    induction ps with
    | nil => exact fun s h => ⟨h, by rw [sumP_nil, Rat.add_zero]; rfl⟩
    | cons p ps ih =>
      intro s h
      have h2 : (stepU s p).2 ≠ 0 := Nat.mul_ne_zero h (Nat.mul_ne_zero p.1.den_nz p.2.den_nz)
      obtain ⟨a, b⟩ := ih _ h2
      exact ⟨a, by rw [List.foldl_cons, b, step_val h, sumP_cons, Rat.add_assoc]⟩
  obtain ⟨a, b⟩ := key ps (0, 1) (by decide)
  refine ⟨a, b.trans ?_⟩
  rw [show mkRat (0 : Int) 1 = 0 from by decide +kernel, Rat.zero_add]
/-- small -/
def Sm (c : Nat) (q : Rat) : Prop := q.num.natAbs < 2 ^ c ∧ q.den < 2 ^ c
def SmP (c : Nat) (p : Pq) : Prop := Sm c p.1 ∧ Sm c p.2
theorem Sm.mono {c d : Nat} {q : Rat} (h : Sm c q) (e : c ≤ d) : Sm d q := ⟨Nat.lt_of_lt_of_le h.1 (Nat.pow_le_pow_right (by decide) e), Nat.lt_of_lt_of_le h.2 (Nat.pow_le_pow_right (by decide) e)⟩
theorem mul_lt_pow {a b c d : Nat} (h : a < 2 ^ c) (k : b < 2 ^ d) : a * b < 2 ^ (c + d) := by
  rw [Nat.pow_add]
  exact Nat.mul_lt_mul'' h k
theorem unc_small {c : Nat} : ∀ (ps : List Pq), (∀ p ∈ ps, SmP c p) → (unc ps).1.natAbs < 2 ^ ((2 * c + 1) * (ps.length + 1)) ∧ (unc ps).2 < 2 ^ ((2 * c + 1) * ps.length + 1) := by
  have key : ∀ (ps : List Pq) (s : Int × Nat) (m : Nat), (∀ p ∈ ps, SmP c p) → s.1.natAbs < 2 ^ ((2 * c + 1) * (m + 1)) → s.2 < 2 ^ ((2 * c + 1) * m + 1) → (ps.foldl stepU s).1.natAbs < 2 ^ ((2 * c + 1) * (m + ps.length + 1)) ∧ (ps.foldl stepU s).2 < 2 ^ ((2 * c + 1) * (m + ps.length) + 1) := by
    intro ps
    induction ps with
    | nil => exact fun s m _ h k => ⟨h, k⟩
    | cons p ps ih =>
      intro s m hp h k
      obtain ⟨⟨a1, a2⟩, b1, b2⟩ := hp p (by simp)
      have hd : p.1.den * p.2.den < 2 ^ (c + c) := mul_lt_pow a2 b2
      have h2 : (stepU s p).2 < 2 ^ ((2 * c + 1) * (m + 1) + 1) := by
        have := mul_lt_pow k hd
        refine Nat.lt_of_lt_of_le this (Nat.pow_le_pow_right (by decide) ?_)
        rw [Nat.mul_add (2 * c + 1) m 1]
        omega
      have h1 : (stepU s p).1.natAbs < 2 ^ ((2 * c + 1) * (m + 1 + 1)) := by
        have x1 : (s.1 * ((p.1.den * p.2.den : Nat) : Int)).natAbs < 2 ^ ((2 * c + 1) * (m + 1) + (c + c)) := nbX h (by rw [Int.natAbs_natCast]; exact hd)
        have x2 : (p.1.num * p.2.num * (s.2 : Int)).natAbs < 2 ^ ((c + c) + ((2 * c + 1) * m + 1)) := nbX (nbX a1 b1) (by simpa using k)
        have e1 : (2 * c + 1) * (m + 1 + 1) = (2 * c + 1) * (m + 1) + (c + c) + 1 := by
          rw [Nat.mul_add (2 * c + 1) (m + 1) 1]
          omega
        rw [e1]
        refine nbA x1 (nbM x2 ?_)
        rw [Nat.mul_add (2 * c + 1) m 1]
        omega
      have := ih (stepU s p) (m + 1) (fun q hq => hp q (by simp [hq])) h1 h2
      rw [List.foldl_cons, List.length_cons]
      rw [show m + (ps.length + 1) = m + 1 + ps.length by omega]
      exact this
  intro ps hp
  have := key ps (0, 1) 0 hp (by simp; exact Nat.pow_pos (by decide)) (by simp)
  simpa [unc] using this
theorem mk_small {n : Int} {d a : Nat} (hd : d ≠ 0) (h : n.natAbs < 2 ^ a) : (mkRat n d).num.natAbs < 2 ^ a ∧ (mkRat n d).den ≤ d := by
  refine ⟨?_, ?_⟩
  · rw [Rat.num_mkRat, if_neg hd]
    have : (n / ((d.gcd n.natAbs : Nat) : Int)).natAbs ≤ n.natAbs := by
      have hg : 0 < d.gcd n.natAbs := Nat.gcd_pos_of_pos_left n.natAbs (Nat.pos_of_ne_zero hd)
      have hdv : ((d.gcd n.natAbs : Nat) : Int) ∣ n := Int.dvd_natAbs.mp (Int.ofNat_dvd.mpr (Nat.gcd_dvd_right _ _))
      obtain ⟨q, hq⟩ := hdv
      generalize ((d.gcd n.natAbs : Nat)) = g at hg hq
      subst hq
      rw [Int.mul_ediv_cancel_left q (by omega), Int.natAbs_mul]
      exact Nat.le_mul_of_pos_left _ (by omega)
    omega
  · rw [Rat.den_mkRat, if_neg hd]
    exact Nat.div_le_self _ _
theorem sum_small {c : Nat} {ps : List Pq} (h : ∀ p ∈ ps, SmP c p) : (sumP ps).num.natAbs < 2 ^ ((2 * c + 1) * (ps.length + 1)) ∧ (sumP ps).den < 2 ^ ((2 * c + 1) * ps.length + 1) := by
  obtain ⟨h0, h1⟩ := unc_val ps
  obtain ⟨a, b⟩ := unc_small ps h
  rw [← h1]
  have := mk_small h0 a
  exact ⟨this.1, Nat.lt_of_le_of_lt this.2 b⟩
theorem sum_Sm {c d : Nat} {ps : List Pq} (h : ∀ p ∈ ps, SmP c p) (e : (2 * c + 1) * (ps.length + 1) ≤ d) (e2 : 1 ≤ c) : Sm d (sumP ps) := by
  obtain ⟨a, b⟩ := sum_small h
  refine ⟨Nat.lt_of_lt_of_le a (Nat.pow_le_pow_right (by decide) e), Nat.lt_of_lt_of_le b (Nat.pow_le_pow_right (by decide) ?_)⟩
  rw [Nat.mul_add] at e
  omega
/-- the fraction of a number as data -/
def frq (q : Rat) : D := .tup [.int q.num, .int (q.den : Int)]
theorem frq_mk {t l : Int} (h : 0 < l) : frq (mkRat t l.toNat) = .tup [.int (t.fdiv ((Nat.gcd t.natAbs l.natAbs : Nat) : Int)), .int (l.fdiv ((Nat.gcd t.natAbs l.natAbs : Nat) : Int))] := by
  have hl : l.toNat ≠ 0 := by omega
  have el : l.toNat = l.natAbs := by omega
  unfold frq
  rw [Rat.num_mkRat, Rat.den_mkRat, if_neg hl, if_neg hl, el, Nat.gcd_comm l.natAbs]
  have e2 : (l.natAbs : Int) = l := by omega
  rw [Int.fdiv_eq_ediv_of_nonneg _ (by omega), Int.fdiv_eq_ediv_of_nonneg _ (by omega), Int.natCast_ediv, e2]
end DL
namespace DL
open PySem PySem.Spec PyProof.Rows L2
variable [TabT]
/-- a halt between two statements -/
theorem xs_mid {C : Fx} {t u : TS} {ρ : List Slot} {po : Po} (N : List Slot → Prop) (h1 : Xs C t ρ { po with nx := N }) (h2 : ∀ ρ', N ρ' → Xs C u ρ' po) : Xs C (tSeq t u) ρ po :=
  xs_seq (h1.imp (fun ρ' n => h2 ρ' n) (fun _ _ h => h) (fun _ h => h) fun _ h => h)
theorem step_mk (s q r : Rat) : s + q * r = mkRat (s.num * (q.den : Int) * (r.den : Int) + q.num * r.num * (s.den : Int)) (s.den * q.den * r.den) := by
  have e : q * r = mkRat (q.num * r.num) (q.den * r.den) := by rw [← Rat.mkRat_mul_mkRat, Rat.mkRat_self, Rat.mkRat_self]
  rw [e]
  conv => lhs; lhs; rw [← Rat.mkRat_self s]
  rw [Rat.mkRat_add_mkRat _ _ s.den_nz (Nat.mul_ne_zero q.den_nz r.den_nz)]
  congr 1
  · simp only [Int.natCast_mul, Int.mul_assoc]
  · rw [Nat.mul_assoc]
theorem sm_take {c d : Nat} {ps : List Pq} (h : ∀ p ∈ ps, SmP c p) (hc : (2 * c + 1) * (ps.length + 2) ≤ d) (h1 : 1 ≤ c) (i : Nat) : Sm d (sumP (ps.take i)) := by
  refine sum_Sm (fun p hp => h p (List.mem_of_mem_take hp)) (Nat.le_trans (Nat.mul_le_mul_left _ ?_) hc) h1
  rw [List.length_take]
  omega
end DL
namespace DL
open PySem PySem.Spec PyProof.Rows L2
variable [TabT]
/-- repr of a fraction -/
def frT (q : Rat) : Str := (PyData.tuple [.int q.num, .int (q.den : Int)]).shown
theorem frT_len {q : Rat} (h : Sm 1919 q) : (frT q).length ≤ 100000 := by
  have l1 : (PySem.Str.ofString (toString q.num)).length ≤ 1921 := int_text_len_1921 (log2W (a := 1919) h.1 (by decide))
  have l2 : (PySem.Str.ofString (toString (q.den : Int))).length ≤ 1921 := int_text_len_1921 (log2W (a := 1919) (by rw [Int.natAbs_natCast]; exact h.2) (by decide))
  have e : frT q = (("(" : Str) ++ ((PySem.Str.ofString (toString q.num)) ++ ", " ++ (PySem.Str.ofString (toString (q.den : Int))))) ++ (")" : Str) := by
    unfold frT
    rfl
  rw [e]
  rw [Str.length_append, Str.length_append, Str.length_append, Str.length_append]
  have a1 : ("(" : Str).length = 1 := rfl
  have a2 : (", " : Str).length = 2 := rfl
  have a3 : (")" : Str).length = 1 := rfl
  omega
theorem repr_frq {K K' : PySem.W.Frag} {P : D → Prop} {q : Rat} (hK : K' = K) (h : Sm 1919 q) (p : P (.str (frT q))) : RC1 K (rRepr K') [frq q] P := by
  refine rc_k (r := rRepr) hK (rc_repr (p := .tuple [.int q.num, .int (q.den : Int)]) rfl ?_ rfl (Nat.le_trans (frT_len h) (by decide)) (by simp [PyData.depth, PyData.depthAll]) p)
  simp only [PyData.showable, PyData.showableAll, Bool.and_true, Bool.and_eq_true, decide_eq_true_eq]
  exact ⟨log2W (a := 1919) h.1 (by decide), log2W (a := 1919) (by rw [Int.natAbs_natCast]; exact h.2) (by decide)⟩
theorem eqv_str (x : Str) : PyData.eqv (.str x) (.str x) = true := by simp [PyData.eqv]
theorem eqv_fr (q : Rat) : PyData.eqv (.tuple [.int q.num, .int (q.den : Int)]) (.tuple [.int q.num, .int (q.den : Int)]) = true := by simp [PyData.eqv, PyData.eqvAll]
/-- == and !=: by data, or of plain values -/
abbrev rEqA (K : PySem.W.Frag) : R2 := fun x y H Q => rEqD K x y H Q ∨ rEq x y H Q
abbrev rNeA (K : PySem.W.Frag) : R2 := fun x y H Q => rNeD K x y H Q ∨ rNe x y H Q
theorem op_eqA {X : Cx} (hu : X.A.units + 64 < cLine) : OpR X (compareOp .Eq) (rEqA X.K) := OpR.or (op_eqD hu) op_eq
theorem op_neA {X : Cx} (hu : X.A.units + 64 < cLine) : OpR X (compareOp .NotEq) (rNeA X.K) := OpR.or (op_neD hu) op_ne
/-- two fractions that are the same, != and == -/
theorem ne_fr {K K' : PySem.W.Frag} {P : D → Prop} {q r : Rat} (hK : K' = K) (e : q = r) (p : P (.bl false)) : RD K (rNeA K') (frq q) (frq r) P := by
  subst e
  refine rd_k (r := rNeA) hK (rd_or1 (rd_ne rfl rfl (by rfl) (by rfl) ?_))
  rw [eqv_fr]
  exact p
theorem eq_fr {K K' : PySem.W.Frag} {P : D → Prop} {q r : Rat} (hK : K' = K) (e : q = r) (p : P (.bl true)) : RD K (rEqA K') (frq q) (frq r) P := by
  subst e
  refine rd_k (r := rEqA) hK (rd_or1 (rd_eq rfl rfl (by rfl) (by rfl) ?_))
  rw [eqv_fr]
  exact p
theorem ne_str {K K' : PySem.W.Frag} {P : D → Prop} {x y : Str} (hK : K' = K) (p : P (.bl (!decide (x = y)))) : RD K (rNeA K') (.str x) (.str y) P := by
  refine rd_k (r := rNeA) hK (rd_or2 fun G H v u Q le a b q => ?_)
  cases a
  cases b
  refine ⟨rfl, ?_⟩
  have e : (!decide (V.str x = V.str y)) = !decide (x = y) := by
    congr 1
    exact decide_eq_decide.mpr ⟨fun h => V.str.inj h, fun h => by rw [h]⟩
  rw [e]
  exact q _ _ G H (Ext.refl le) p (.bl _)
theorem eq_str {K K' : PySem.W.Frag} {P : D → Prop} {x y : Str} (hK : K' = K) (p : P (.bl (decide (x = y)))) : RD K (rEqA K') (.str x) (.str y) P := by
  refine rd_k (r := rEqA) hK (rd_or2 fun G H v u Q le a b q => ?_)
  cases a
  cases b
  refine ⟨rfl, ?_⟩
  have e : decide (V.str x = V.str y) = decide (x = y) := decide_eq_decide.mpr ⟨fun h => V.str.inj h, fun h => by rw [h]⟩
  rw [e]
  exact q _ _ G H (Ext.refl le) p (.bl _)
end DL
namespace DL
open PySem PySem.Spec PyProof.Rows L2
variable [TabT]
theorem ne_strS {K K' : PySem.W.Frag} {P : D → Prop} {x y : Str} (hK : K' = K) (e : x = y) (p : P (.bl false)) : RD K (rNeA K') (.str x) (.str y) P := by
  subst e
  exact ne_str hK (by simpa using p)
theorem perm_map_inv {α β : Type} {f : α → β} {ys zs : List β} (h : ys.Perm zs) : ∀ l : List α, zs = l.map f → ∃ os : List α, os.Perm l ∧ ys = os.map f := by
  induction h with
  | nil =>
    intro l e
    cases l with
    | nil => exact ⟨[], List.Perm.refl _, rfl⟩
    | cons a l => cases e
  | cons x _ ih =>
    intro l e
    cases l with
    | nil => cases e
    | cons a l =>
      injection e with e1 e2
      obtain ⟨os, h1, h2⟩ := ih l e2
      exact ⟨a :: os, h1.cons a, by rw [List.map_cons, ← h2, e1]⟩
  | swap x y l' =>
    intro l e
    cases l with
    | nil => cases e
    | cons a l =>
      cases l with
      | nil => cases e
      | cons b l =>
        injection e with e1 e2
        injection e2 with e2 e3
        exact ⟨b :: a :: l, List.Perm.swap _ _ _, by rw [List.map_cons, List.map_cons, ← e1, ← e2, ← e3]⟩
  | trans _ _ ih1 ih2 =>
    intro l e
    obtain ⟨os, h1, h2⟩ := ih2 l e
    obtain ⟨os', h3, h4⟩ := ih1 os h2
    exact ⟨os', h3.trans h1, h4⟩
theorem sm_one : Sm 17 (1 : Rat) := ⟨by decide, by decide⟩
theorem frq_two (q : Rat) : frq (2 * q) = .tup [.int ((2 * q.num).fdiv ((Nat.gcd 2 q.den : Nat) : Int)), .int ((q.den : Int).fdiv ((Nat.gcd 2 q.den : Nat) : Int))] := by
  have e : 2 * q = mkRat (2 * q.num) ((q.den : Int).toNat) := by
    rw [Int.toNat_natCast]
    conv => lhs; rhs; rw [← Rat.mkRat_self q]
    rw [show (2 : Rat) = mkRat 2 1 from by decide +kernel, Rat.mkRat_mul_mkRat, Nat.one_mul]
  rw [e, frq_mk (by have := q.den_pos; omega)]
  have g : Nat.gcd (2 * q.num).natAbs (q.den : Int).natAbs = Nat.gcd 2 q.den := by
    rw [Int.natAbs_natCast, Int.natAbs_mul]
    exact Nat.Coprime.gcd_mul_right_cancel 2 q.reduced
  rw [g]
theorem sm_two {c : Nat} {q : Rat} (h : Sm c q) : Sm (c + 1) (2 * q) := by
  have e : 2 * q = mkRat (2 * q.num) q.den := by
    conv => lhs; rhs; rw [← Rat.mkRat_self q]
    rw [show (2 : Rat) = mkRat 2 1 from by decide +kernel, Rat.mkRat_mul_mkRat, Nat.one_mul]
  rw [e]
  have e2 : (2 * q.num).natAbs < 2 ^ (c + 1) := by
    rw [Int.natAbs_mul, Nat.pow_succ]
    have := h.1
    show 2 * _ < _
    omega
  have := mk_small q.den_nz e2
  exact ⟨this.1, Nat.lt_of_le_of_lt this.2 (Nat.lt_of_lt_of_le h.2 (Nat.pow_le_pow_right (by decide) (by omega)))⟩
theorem mul_mk (q r : Rat) : q * r = mkRat (q.num * r.num) (((q.den : Int) * (r.den : Int)).toNat) := by
  rw [← Int.natCast_mul, Int.toNat_natCast, ← Rat.mkRat_mul_mkRat, Rat.mkRat_self, Rat.mkRat_self]
theorem sm_mul {c d : Nat} {q r : Rat} (h : Sm c q) (k : Sm d r) : Sm (c + d) (q * r) := by
  have e : q * r = mkRat (q.num * r.num) (q.den * r.den) := by rw [← Rat.mkRat_mul_mkRat, Rat.mkRat_self, Rat.mkRat_self]
  rw [e]
  have := mk_small (Nat.mul_ne_zero q.den_nz r.den_nz) (nbX h.1 k.1)
  exact ⟨this.1, Nat.lt_of_le_of_lt this.2 (mul_lt_pow h.2 k.2)⟩
theorem sm_neg {c : Nat} {q : Rat} (h : Sm c q) : Sm c (-q) := by
  refine ⟨?_, ?_⟩
  · rw [Rat.neg_num, Int.natAbs_neg]
    exact h.1
  · rw [Rat.neg_den]
    exact h.2
theorem frq_neg (q : Rat) : frq (-q) = .tup [.int (-q.num), .int (q.den : Int)] := by
  unfold frq
  rw [Rat.neg_num, Rat.neg_den]
theorem sumP_mul (ps : List Pq) (f : Pq → Pq) (k : Rat) (h : ∀ p ∈ ps, val (f p) = k * val p) : sumP (ps.map f) = k * sumP ps := by
  induction ps with
  | nil => simp [sumP_nil]
  | cons p ps ih =>
    rw [List.map_cons, sumP_cons, sumP_cons, ih fun q hq => h q (by simp [hq]), h p (by simp), Rat.mul_add]
theorem sumP_congr (ps : List Pq) (f : Pq → Pq) (h : ∀ p ∈ ps, val (f p) = val p) : sumP (ps.map f) = sumP ps := by
  induction ps with
  | nil => rfl
  | cons p ps ih => rw [List.map_cons, sumP_cons, sumP_cons, ih fun q hq => h q (by simp [hq]), h p (by simp)]
theorem val_one (q : Rat) : val (q, 1) = q := Rat.mul_one q
end DL
namespace DL
open PySem PySem.Spec PyProof.Rows L2
variable [TabT]

/-! ### the rules for a frame whose names are bound in a walk -/
section
variable {X : Cx} {K : PySem.W.Frag}
theorem kIx (h : X.K = K) : IxR X (rIx K) := h ▸ ix_seq
theorem kCut (h : X.K = K) : SlR X (rCut K) := h ▸ sl_cut
theorem kPlus (h : X.K = K) : OpR X (binaryOp .Add) (rPlus K) := h ▸ op_plus
theorem kTimes (h : X.K = K) : OpR X (binaryOp .Mult) (rTimesA K) := h ▸ op_timesA
theorem kEq (h : X.K = K) (hu : X.A.units + 64 < cLine) : OpR X (compareOp .Eq) (rEqA K) := h ▸ op_eqA hu
theorem kNe (h : X.K = K) (hu : X.A.units + 64 < cLine) : OpR X (compareOp .NotEq) (rNeA K) := h ▸ op_neA hu
theorem kLenA (h : X.K = K) : CallR X (.builtin "len") (rLenA K) := h ▸ (CallR.or call_len_seq call_len_str)
theorem kIsi (h : X.K = K) : CallR X (.builtin "isinstance") (rIsi K) := h ▸ call_isi
end
end DL
open PySem PySem.Spec PyProof.Rows L2 DL
local macro_rules | `(tactic| walk_at "ar") => `(tactic| first
  | (with_reducible refine ev_var rfl ?_)
  | (with_reducible refine ev_int ?_)
  | (with_reducible refine ev_str ?_)
  | (with_reducible refine ev_bl ?_)
  | (with_reducible refine ev_non ?_)
  | (with_reducible refine ev_val ?_)
  | (with_reducible refine ev_op ?_)
  | (with_reducible refine ev_un ?_)
  | (with_reducible refine ev_cb ?_)
  | (with_reducible refine ea_cons ?_)
  | (with_reducible refine ea_nil ?_)
  | (with_reducible refine ev_if ?_)
  | (with_reducible refine ev_andV ?_)
  | (with_reducible refine ev_orV ?_)
  | (with_reducible refine ev_notV ?_)
  | (with_reducible refine et_B ?_)
  | (with_reducible refine et_test ?_)
  | (with_reducible refine et_and ?_)
  | (with_reducible refine et_or ?_)
  | (with_reducible refine et_not ?_)
  | (with_reducible refine et_yes ?_)
  | (with_reducible refine xs_seq ?_)
  | (with_reducible refine xs_next ?_)
  | (with_reducible refine xs_ret ?_)
  | (with_reducible refine xs_if ?_)
  | ((with_reducible refine rd_k (r := rPlus) ?hK (plus_int ?_)); (case hK => exact rfl))
  | (with_reducible refine rd_B0 ?_)
  | (with_reducible refine rd_I0 ?_)
  | ((with_reducible refine rc_k (r := rLenA) ?hK (len_lst ?_)); (case hK => exact rfl))
  | ((with_reducible refine rc_k (r := rLenA) ?hK (len_tup ?_)); (case hK => exact rfl))
  | ((with_reducible refine rc_k (r := rLenA) ?hK (len_scr ?_)); (case hK => exact rfl))
  | (with_reducible refine rc_int ?_)
  | (with_reducible refine rc_intB ?_)
  | (with_reducible refine rc_abs ?_)
  | (with_reducible refine rc_gcd ?_)
  | (with_reducible refine rc_max2 ?_)
  | (with_reducible refine rc_min2 ?_)
  | (with_reducible refine ru_neg ?_)
  | (with_reducible refine ev_tup ?_)
  | (with_reducible refine ev_lst ?_))
local macro_rules | `(tactic| walk_at "ev") => `(tactic| first
  | walk_at "ar"
  | (refine And.intro (show List.length _ ≤ 100000 from Nat.le_of_ble_eq_true rfl) ?_)
  | (refine Exists.intro _ (And.intro rfl ?_)))
namespace K02
variable [TabT]
open PySem PySem.Spec PyProof.Rows L2 DL
def topS (i : Nat) : Stmt := PySem.Challenge.pw_tiesums_k02_whole_sums_of_fractions.main.body.getD i (.Pass ⟨0, 0, 0, 0⟩)
abbrev s_l_take : Stmt := topS 15
abbrev n_l_take : List Str := ["_law_pot_here", "_law_upto", "_law_digit", "_law_prime", "_law_blend"]
abbrev p_l_take : List Str := ["_law_pot_here", "_law_upto"]
theorem sc_l_take : FnScope n_l_take p_l_take (defScope s_l_take) := ⟨rfl, rfl, rfl, by decide +kernel, rfl, by decide +kernel, by decide +kernel⟩

abbrev primes : List V := [.int 2147483647, .int 2147483629, .int 2147483587, .int 2147483579, .int 2147483563]
theorem tabs_keep {H H' : Hp} {a : Addr} {xs : List V} {T : List (Addr × Str)} (ha : H a = some (.lst xs)) (kp : ∀ b o, b ≠ a → H b = some o → H' b = some o) (t : LamX.Tabs T H) : LamX.Tabs T H' := fun q hq => by
  obtain ⟨ps, h1, h2, h3⟩ := t q hq
  refine ⟨ps, kp _ _ (fun z => ?_) h1, h2, fun pos cv hc => ?_⟩
  · rw [z, ha] at h1
    cases h1
  · obtain ⟨c, e1, e2⟩ := h3 pos cv hc
    refine ⟨c, e1, kp _ _ (fun z => ?_) e2⟩
    rw [z, ha] at e2
    cases e2
section
variable {P : Program} {w : World} {K : PySem.W.Frag} {mg : Str → Option Value} {base : Heap}
def fp_take : FP := fun k ds R _ => ∃ n : Int, ds = [.int n] ∧ 0 < n ∧ n ≤ 2 ^ 64 ∧ k < 2 ^ 40 ∧ ∀ d : Int, 0 ≤ d → d < n → R (.int d) (k + 1)
theorem ok_take {f : Addr} {fd : FuncData} (B : Bt mg) (F : Fun K "_law_take" "_law_take" s_l_take f fd) : FnG P w K mg base CX0 1 f fd p_l_take (spP K fp_take) := by
  refine okG F sc_l_take (spP_len fun k ds R Z ⟨n, e, _⟩ => by rw [e]; rfl) (fun cdv A outer s H vs Q E gd hr ⟨a, ws, G, ds, k, R, Z, ev, le, ga, ⟨x, y, m, ha, x0, x1, y0, y1, m0, m1⟩, kd, hf, hq, hz⟩ => ?_)
  obtain ⟨n, rfl, n0, n1, k1, hf⟩ := hf
  obtain ⟨v, rfl, kv⟩ := kd.one
  cases kv
  subst ev
  refine ⟨_, PSs.nox ((pss_cons (ps_if (pt_cmpR op_gt (pe_ix ix_seq (pv 0) pe_int (fun _ _ => rfl)) pe_int (nomark _))
      (pss_cons (ps_set (i := 2) sc_l_take.nd rfl (by first | exact Or.inl rfl | exact Or.inr rfl) (pe_op op_modN (pe_callTy (call_int1) rfl B.b_int bt_int (pa_cons (pe_ix ix_seq (pv 0) pe_int (fun _ _ => rfl)) pa_nil)) (pv 1)))
      (pss_cons (ps_asg (pe_op op_fdivG (pe_ix ix_seq (pv 0) pe_int (fun _ _ => rfl)) (pv 1)) (pg_sub (pv 0) pe_int set_list))
      (pss_one (ps_ret (pv 2)))))
      pss_nil)
      (pss_cons (ps_asg (pe_op op_plus (pe_ix ix_seq (pv 0) pe_int (fun _ _ => rfl)) pe_int) (pg_sub (pv 0) pe_int set_list))
      (pss_cons (ps_set (i := 3) sc_l_take.nd rfl (by first | exact Or.inl rfl | exact Or.inr rfl) (pe_ix ix_seq (pe_lst (pa_cons pe_int (pa_cons pe_int (pa_cons pe_int (pa_cons pe_int (pa_cons pe_int pa_nil)))))) (pe_op op_modN (pe_callTy (call_int1) rfl B.b_int bt_int (pa_cons (pe_ix ix_seq (pv 0) pe_int (fun _ _ => rfl)) pa_nil)) pe_int) (fun _ _ => rfl)))
      (pss_cons (ps_set (i := 4) sc_l_take.nd rfl (by first | exact Or.inl rfl | exact Or.inr rfl) (pe_op op_modN (pe_callTy (call_int1) rfl B.b_int bt_int (pa_cons (pe_op op_powG (pe_callTy (call_int1) rfl B.b_int bt_int (pa_cons (pe_op op_plus (pe_op op_plus (pe_ix ix_seq (pv 0) pe_int (fun _ _ => rfl)) (pe_op op_timesA (pe_op op_timesA pe_int (pe_ix ix_seq (pv 0) pe_int (fun _ _ => rfl))) (pe_ix ix_seq (pv 0) pe_int (fun _ _ => rfl)))) pe_int) pa_nil)) pe_int) pa_nil)) (pv 3)))
      (pss_cons (ps_set (i := 4) sc_l_take.nd rfl (by first | exact Or.inl rfl | exact Or.inr rfl) (pe_op op_modN (pe_callTy (call_int1) rfl B.b_int bt_int (pa_cons (pe_op op_timesA (pv 4) (pe_op op_plus (pe_op op_modN (pe_callTy (call_int1) rfl B.b_int bt_int (pa_cons (pv 4) pa_nil)) pe_int) (pe_op op_timesA pe_int (pe_ix ix_seq (pv 0) pe_int (fun _ _ => rfl))))) pa_nil)) pe_int))
      (pss_one (ps_ret (pe_op op_modN (pe_callTy (call_int1) rfl B.b_int bt_int (pa_cons (pe_op op_fdivG (pv 4) pe_int) pa_nil)) (pv 1)))))))))), ?_⟩
  refine ⟨.ref a, rfl, .inl ⟨a, _, 0, .int x, rfl, rfl, .inl (.inl ha), rfl, x, 0, rfl, rfl, _, rfl, ?_⟩⟩
  have out : ∀ (x' y' m' d : Int) (H' : Hp), H' a = some (.lst [.int x', .int y', .int m']) → (∀ b o, b ≠ a → H b = some o → H' b = some o) → (0 ≤ x' ∧ x' < 2 ^ 1000 ∧ 0 ≤ y' ∧ y' < 2305843009213693921 ∧ 0 ≤ m' ∧ m' ≤ ((k + 1 : Nat) : Int)) → 0 ≤ d → d < n → Q (.int d) H' := fun x' y' m' d H' e kp c d0 d1 => by
    refine hq _ (.int d) (k + 1) G H' ⟨Same.refl G, fun b o g => kp b o (ne_of_none g ga) (le b o g), fun b o q _ nb => kp b o nb q, fun b o _ g _ => g, fun b o q => ?_, fun t => tabs_keep ha kp t, fun g => g⟩ ga ⟨x', y', m', e, c.1, c.2.1, c.2.2.1, c.2.2.2.1, c.2.2.2.2.1, c.2.2.2.2.2⟩ (.int d) (hf d d0 d1)
    by_cases hb : b = a
    · subst hb
      exact ⟨_, e⟩
    · exact ⟨o, kp b o hb q⟩
  refine ite2 (fun hx => ?_) (fun hx => ?_)
  · have hx : 0 < x := of_decide_eq_true hx
    refine ⟨.ref a, rfl, .inl ⟨a, _, 0, .int x, rfl, rfl, .inl (.inl ha), rfl, .inl ⟨x, rfl, .int n, rfl, x, n, rfl, rfl, by omega, ?_⟩⟩⟩
    refine ⟨.ref a, rfl, .inl ⟨a, _, 0, .int x, rfl, rfl, .inl (.inl ha), rfl, .int n, rfl, x, n, rfl, rfl, fdivG (a := 65) (by omega) (natAbs_lt (by omega) (by omega)) (by decide), ?_⟩⟩
    refine ⟨.ref a, rfl, a, _, 0, 0, rfl, rfl, ha, rfl, ?_⟩
    refine ⟨_, rfl, ?_⟩
    have e1 : x.fmod n = x % n := Int.fmod_eq_emod_of_nonneg x (by omega)
    have e2 : x.fdiv n = x / n := Int.fdiv_eq_ediv_of_nonneg x (by omega)
    have b1 : 0 ≤ x % n := Int.emod_nonneg _ (by omega)
    have b2 : x % n < n := Int.emod_lt_of_pos _ n0
    have b3 : 0 ≤ x / n := Int.ediv_nonneg (by omega) (by omega)
    have b4 : x / n ≤ x := Int.ediv_le_self _ (by omega)
    refine out (x.fdiv n) y m (x.fmod n) _ upd_same (fun b o nb q => by rw [upd_ne nb]; exact q) ?_ (by omega) (by omega)
    refine ⟨by omega, by omega, by omega, by omega, by omega, by omega⟩
  · refine ⟨.ref a, rfl, .inl ⟨a, _, 2, .int m, rfl, rfl, .inl (.inl ha), rfl, .inl ⟨m, 1, rfl, rfl, ?_⟩⟩⟩
    refine ⟨.ref a, rfl, a, _, 2, 2, rfl, rfl, ha, rfl, ?_⟩
    have mb : (m + 1).natAbs < 2 ^ 41 := natAbs_lt (by omega) (by omega)
    obtain ⟨pr, hpr, p0, p1⟩ : ∃ pr : Int, atI primes ((m + 1).fmod 5) = some (.int pr) ∧ 0 < pr ∧ pr < 2147483648 := by
      have e1 : (m + 1).fmod 5 = (m + 1) % 5 := Int.fmod_eq_emod_of_nonneg _ (by omega)
      rw [e1]
      have c : (m + 1) % 5 = 0 ∨ (m + 1) % 5 = 1 ∨ (m + 1) % 5 = 2 ∨ (m + 1) % 5 = 3 ∨ (m + 1) % 5 = 4 := by omega
      rcases c with c | c | c | c | c <;> rw [c]
      · exact ⟨_, rfl, by decide, by decide⟩
      · exact ⟨_, rfl, by decide, by decide⟩
      · exact ⟨_, rfl, by decide, by decide⟩
      · exact ⟨_, rfl, by decide, by decide⟩
      · exact ⟨_, rfl, by decide, by decide⟩
    have h1 : (upd H a (.lst [.int x, .int y, .int (m + 1)])) a = some (.lst [.int x, .int y, .int (m + 1)]) := upd_same
    refine ⟨by decide, fun p hp => ?_⟩
    have pa : a ≠ p := ne_of_none h1 hp
    refine ⟨.ref a, rfl, .inl ⟨a, [.int x, .int y, .int (m + 1)], 2, .int (m + 1), rfl, rfl, .inl (.inl (by rw [upd_ne pa]; exact upd_same)), rfl, .inl ⟨m + 1, rfl, m + 1, 5, rfl, rfl, (show (5 : Int) ≠ 0 by decide), .inl ⟨p, primes, _, .int pr, rfl, rfl, .inl (.inl upd_same), hpr, ?_⟩⟩⟩⟩
    obtain ⟨H2, eH2⟩ : ∃ H2, H2 = upd (upd H a (.lst [.int x, .int y, .int (m + 1)])) p (.lst primes) := ⟨_, rfl⟩
    have h2 : H2 a = some (.lst [.int x, .int y, .int (m + 1)]) := by
      rw [eH2, upd_ne pa]
      exact h1
    have kp2 : ∀ b o, b ≠ a → H b = some o → H2 b = some o := fun b o nb q => by
      have q1 : (upd H a (.lst [.int x, .int y, .int (m + 1)])) b = some o := by
        rw [upd_ne nb]
        exact q
      rw [eH2, upd_ne (ne_of_none q1 hp)]
      exact q1
    have yb : y.natAbs < 2 ^ 61 := natAbs_lt (by omega) (by omega)
    have sqb : ∀ c : Int, c.natAbs < 2 ^ 20 → (c * (m + 1)).natAbs < 2 ^ 61 := fun c hc => wide_lt hc mb
    have sqc : ∀ c : Int, c.natAbs < 2 ^ 20 → (c * (m + 1) * (m + 1)).natAbs < 2 ^ 102 := fun c hc => wide_lt (sqb c hc) mb
    -- blend
    refine ⟨.ref a, rfl, .inl ⟨a, [.int x, .int y, .int (m + 1)], 1, .int y, rfl, rfl, .inl (.inl (eH2 ▸ h2)), rfl, ?_⟩⟩
    refine ⟨.ref a, rfl, .inl ⟨a, [.int x, .int y, .int (m + 1)], 2, .int (m + 1), rfl, rfl, .inl (.inl (eH2 ▸ h2)), rfl, .inl (.inl ⟨_, m + 1, rfl, rfl, mulW (a := 20) (b := 41) (by decide) mb (by decide), ?_⟩)⟩⟩
    refine ⟨.ref a, rfl, .inl ⟨a, [.int x, .int y, .int (m + 1)], 2, .int (m + 1), rfl, rfl, .inl (.inl (eH2 ▸ h2)), rfl, .inl (.inl ⟨_, m + 1, rfl, rfl, mulW (a := 61) (b := 41) (sqb _ (by decide)) mb (by decide), ?_⟩)⟩⟩
    refine .inl ⟨_, _, rfl, rfl, .inl ⟨_, _, rfl, rfl, .inl ⟨_, rfl, _, _, rfl, rfl, powG (a := 110) (by decide) ?_ (by decide), .inl ⟨_, rfl, .int pr, rfl, _, _, rfl, rfl, by omega, ?_⟩⟩⟩⟩
    · exact nbA (a := 109) (nbA (a := 108) (nbM yb (by decide)) (nbM (sqc _ (by decide)) (by decide))) (nbM (a := 10) (by decide) (by decide))
    have F1 : ∀ i : Int, (i.fmod pr).natAbs < 2 ^ 31 := fun i => by
      have := fmod_rng (i := i) p0
      exact natAbs_lt (by omega) (by omega)
    have q1 : ∀ i c : Int, c.natAbs < 2 ^ 20 → (i.fmod 10333 + c * (m + 1)).natAbs < 2 ^ 62 := fun i c hc => by
      have f := fmod_rng (i := i) (j := 10333) (by decide)
      exact nbA (a := 61) (natAbs_lt (by omega) (by omega)) (sqb c hc)
    refine ⟨_, rfl, _, rfl, .inl ⟨_, rfl, _, 10333, rfl, rfl, (show (10333 : Int) ≠ 0 by decide), ?_⟩⟩
    refine ⟨.ref a, rfl, .inl ⟨a, [.int x, .int y, .int (m + 1)], 2, .int (m + 1), rfl, rfl, .inl (.inl (eH2 ▸ h2)), rfl, .inl (.inl ⟨_, m + 1, rfl, rfl, mulW (a := 20) (b := 41) (by decide) mb (by decide), ?_⟩)⟩⟩
    refine .inl ⟨_, _, rfl, rfl, .inl (.inl ⟨_, _, rfl, rfl, mulW (a := 31) (b := 62) (F1 _) (q1 _ _ (by decide)) (by decide), .inl ⟨_, rfl, _, _, rfl, rfl, (show (2305843009213693907 : Int) ≠ 0 by decide), ?_⟩⟩)⟩
    refine ⟨_, rfl, _, 163, rfl, rfl, fdivG (a := 10) (by decide) (by decide) (by decide), .inl ⟨_, rfl, .int n, rfl, _, n, rfl, rfl, by omega, ?_⟩⟩
    refine out x y (m + 1) _ _ (eH2 ▸ h2) (eH2 ▸ kp2) ⟨by omega, by omega, by omega, by omega, by omega, by omega⟩ (fmod_rng n0).1 (fmod_rng n0).2
end
abbrev s_l_pot : Stmt := topS 14
abbrev n_l_pot : List Str := ["_law_script", "_law_place", "_law_cell", "_law_own", "_law_small"]
abbrev p_l_pot : List Str := ["_law_script", "_law_place"]
theorem sc_l_pot : FnScope n_l_pot p_l_pot (defScope s_l_pot) := ⟨rfl, rfl, rfl, by decide +kernel, rfl, by decide +kernel, by decide +kernel⟩

section
variable {P : Program} {w : World} {K : PySem.W.Frag} {mg : Str → Option Value} {base : Heap}
def fn_pot : List D → Prop := fun ds => ∃ ns i, ds = [.scr ns, .int i] ∧ 0 ≤ i ∧ i ≤ 100000
theorem ok_pot {f : Addr} {fd : FuncData} (B : Bt mg) (F : Fun K "_law_pot" "_law_pot" s_l_pot f fd) : FnG P w K mg base CX0 1 f fd p_l_pot (spN K fn_pot) := by
  refine okG F sc_l_pot (fun vs H Q E ⟨G, ds, le, kd, ⟨ns, i, e, _⟩, _⟩ => by rw [kd.length, e]; rfl) (fun cdv A outer s H vs Q E gd hr ⟨G, ds, le, kd, hf, hq⟩ => ?_)
  obtain ⟨ns, i, rfl, i0, i1⟩ := hf
  refine ⟨_, PSs.nox ((pss_cons (ps_set (i := 2) sc_l_pot.nd rfl (by first | exact Or.inl rfl | exact Or.inr rfl) (pe_ifExp (pt_cmpR op_lt (pv 1) (pe_callB ((CallR.or call_len_seq call_len_str)) rfl B.b_len bt_len (pa_cons (pv 0) pa_nil)) (nomark _)) (pe_ix ix_seq (pv 0) (pv 1) (fun _ _ => rfl)) (pe_op op_plus (pe_op op_timesA pe_int (pv 1)) pe_int)))
      (pss_cons (ps_set (i := 3) sc_l_pot.nd rfl (by first | exact Or.inl rfl | exact Or.inr rfl) (pe_op op_timesA (pe_op op_modN (pe_callTy (call_int1) rfl B.b_int bt_int (pa_cons (pe_callB (call_abs) rfl B.b_abs bt_abs (pa_cons (pv 2) pa_nil)) pa_nil)) (pe_op op_powG (pe_op op_powG pe_int pe_int) pe_int)) (pe_callTy (call_int1) rfl B.b_int bt_int (pa_cons (pe_cmpR op_ge (pe_callB (call_abs) rfl B.b_abs bt_abs (pa_cons (pv 2) pa_nil)) (pe_op op_powG pe_int pe_int) (nomark _)) pa_nil))))
      (pss_cons (ps_set (i := 4) sc_l_pot.nd rfl (by first | exact Or.inl rfl | exact Or.inr rfl) (pe_op op_modN (pe_callTy (call_int1) rfl B.b_int bt_int (pa_cons (pv 2) pa_nil)) pe_int))
      (pss_one (ps_ret (pe_lst (pa_cons (pv 3) (pa_cons (pe_op op_modN (pe_callTy (call_int1) rfl B.b_int bt_int (pa_cons (pe_op op_plus (pe_op op_plus (pe_op op_timesA (pv 4) pe_int) (pe_op op_timesA (pe_op op_timesA pe_int (pv 1)) (pv 1))) pe_int) pa_nil)) pe_int) (pa_cons pe_int pa_nil)))))))))), ?_⟩
  have ib : i.natAbs < 2 ^ 17 := natAbs_lt (by omega) (by omega)
  have C1 : (10 ^ (60 : Int).toNat : Int).natAbs < 2 ^ 200 := by decide +kernel
  have C2 : ((10 ^ (60 : Int).toNat : Int) ^ (5 : Int).toNat : Int).natAbs < 2 ^ 999 := by decide +kernel
  have C3 : (0 : Int) < (10 ^ (60 : Int).toNat : Int) ^ (5 : Int).toNat := by decide +kernel
  have C4 : ((10 ^ (60 : Int).toNat : Int) ^ (5 : Int).toNat : Int) < 2 ^ 1000 := by decide +kernel
  have C5 : ((10 ^ (60 : Int).toNat : Int) ^ (5 : Int).toNat : Int) ≠ 0 := by omega
  refine xs_then (N := fun ρ => ∃ c : Int, ρ = [.dat (.scr ns), .dat (.int i), .dat (.int c), .un, .un]) ?_ (start_sg le kd (fun _ => False)) fun σ1 G1 H1 ρ1 S1 ⟨c, e1⟩ => ?_
  · refine xs_set ?_
    repeat walk_at "ev"
    refine ⟨fun h => ?_, fun h => ?_⟩
    · have h : i < (ns.length : Int) := of_decide_eq_true h
      refine ev_op ?_
      repeat walk_at "ev"
      refine rd_k (r := rIx) rfl (ix_scr ⟨i.toNat, by omega, List.getElem?_eq_getElem (by omega)⟩ ?_)
      exact ⟨_, rfl⟩
    · repeat walk_at "ev"
      refine rd_k (r := rTimesA) rfl (DL.mul_int (mulW (a := 20) (b := 17) (by decide) ib (by decide)) ?_)
      repeat walk_at "ev"
      exact ⟨_, rfl⟩
  subst e1
  refine xs_then (N := fun ρ => ∃ x : Int, 0 ≤ x ∧ x < 2 ^ 1000 ∧ ρ = [.dat (.scr ns), .dat (.int i), .dat (.int c), .dat (.int x), .un]) ?_ S1 fun σ2 G2 H2 ρ2 S2 ⟨x, x0, x1, e2⟩ => ?_
  · refine xs_set ?_
    repeat walk_at "ev"
    refine rd_I (powG (a := 10) (by decide) (by decide) (by decide)) ?_
    repeat walk_at "ev"
    refine rd_I (powG (a := 200) (by decide) C1 (by decide)) ?_
    refine rd_I C5 ?_
    repeat walk_at "ev"
    refine rd_I (powG (a := 10) (by decide) (by decide) (by decide)) ?_
    repeat walk_at "ev"
    have r := fmod_rng (i := if c < 0 then -c else c) C3
    refine rd_k (r := rTimesA) rfl (DL.mul_int (mulW (a := 1000) (b := 2) (natAbs_lt (Int.lt_of_lt_of_le (by decide) r.1) (Int.lt_trans r.2 C4)) (bit_nb _) (by decide)) ?_)
    have r2 := fun b => bit_mul r.1 b
    exact ⟨_, (r2 _).1, Int.lt_of_le_of_lt (r2 _).2 (Int.lt_trans r.2 C4), rfl⟩
  subst e2
  refine xs_then (N := fun ρ => ∃ z : Int, 0 ≤ z ∧ z < 2305843009213693951 ∧ ρ = [.dat (.scr ns), .dat (.int i), .dat (.int c), .dat (.int x), .dat (.int z)]) ?_ S2 fun σ3 G3 H3 ρ3 S3 ⟨z, z0, z1, e3⟩ => ?_
  · refine xs_set ?_
    repeat walk_at "ev"
    refine rd_I (show (2305843009213693951 : Int) ≠ 0 by decide) ?_
    have r := fmod_rng (i := c) (j := 2305843009213693951) (by decide)
    exact ⟨_, r.1, r.2, rfl⟩
  subst e3
  have zb : z.natAbs < 2 ^ 61 := natAbs_lt (by omega) (by omega)
  refine en_lst (P := fun ds _ => ∃ u v : Int, ds = [.int u, .int v, .int 0] ∧ 0 ≤ u ∧ u < 2 ^ 1000 ∧ 0 ≤ v ∧ v < 2305843009213693921) ?_ _ _ _ _ S3 fun p us ds G4 H4 ρ4 s4 p4 n g h k => ?_
  · repeat walk_at "ev"
    refine rd_k (r := rTimesA) rfl (DL.mul_int (mulW (a := 61) (b := 20) zb (by decide) (by decide)) ?_)
    repeat walk_at "ev"
    refine rd_k (r := rTimesA) rfl (DL.mul_int (mulW (a := 20) (b := 17) (by decide) ib (by decide)) ?_)
    repeat walk_at "ev"
    refine rd_k (r := rTimesA) rfl (DL.mul_int (mulW (a := 37) (b := 17) (nbX (a := 20) (b := 17) (by decide) ib) ib (by decide)) ?_)
    repeat walk_at "ev"
    refine rd_I (show (2305843009213693921 : Int) ≠ 0 by decide) ?_
    repeat walk_at "ev"
    exact ⟨_, _, rfl, x0, x1, (fmod_rng (by decide)).1, (fmod_rng (by decide)).2⟩
  · obtain ⟨u, v, rfl, u0, u1, v0, v1⟩ := p4
    have e : us = [.int u, .int v, .int 0] := by
      cases k with
      | cons a k =>
        obtain ⟨b, d, rfl, b1, b2⟩ := k.two
        rw [a.int_inv, b1.int_inv, b2.int_inv]
    subst e
    refine hq p G4 H4 s4.st.ext ?_ g ⟨u, v, 0, h, u0, u1, v0, v1, by omega, by omega⟩
    exact h0_none S3 n
end
abbrev s_l_of : Stmt := topS 21
abbrev n_l_of : List Str := ["_law_pot_here", "_law_some_here"]
abbrev p_l_of : List Str := ["_law_pot_here", "_law_some_here"]
theorem sc_l_of : FnScope n_l_of p_l_of (defScope s_l_of) := ⟨rfl, rfl, rfl, by decide +kernel, rfl, by decide +kernel, by decide +kernel⟩

section
variable {P : Program} {w : World} {K : PySem.W.Frag} {mg : Str → Option Value} {base : Heap}
def fp_of : FP := fun k ds R _ => ∃ xs, ds = [.lst xs] ∧ 0 < xs.length ∧ xs.length ≤ 100000 ∧ k < 2 ^ 40 ∧ ∀ x ∈ xs, R x (k + 1)
theorem ok_of {f : Addr} {fd : FuncData} (B : Bt mg) (c_l_take : Cal P w K mg base CX0 1 "_law_take" p_l_take [] (spP K fp_take)) (F : Fun K "_law_of" "_law_of" s_l_of f fd) : FnG P w K mg base CX0 2 f fd p_l_of (spP K fp_of) := by
  refine okG F sc_l_of (spP_len fun k ds R Z ⟨xs, e, _⟩ => by rw [e]; rfl) (fun cdv A outer s H vs Q E gd hr ⟨a, ws, G, ds, k, R, Z, ev, le, ga, pa, kd, hf, hq, hz⟩ => ?_)
  obtain ⟨xs, rfl, x0, x1, k1, hf⟩ := hf
  subst ev
  refine ⟨_, PSs.nox ((pss_one (ps_ret (pe_ix ix_seq (pv 1) (pe_cal c_l_take gd (hr.mono (by first | decide | omega)) pass0 (pa_cons (pv 0) (pa_cons (pe_callB ((CallR.or call_len_seq call_len_str)) rfl B.b_len bt_len (pa_cons (pv 1) pa_nil)) pa_nil))) (fun _ _ => rfl))))), fin_P le ga pa kd hq ?_⟩
  refine xs_ret ?_
  repeat walk_at "ev"
  refine ev_callP (Z := fun _ _ => False) Flies.none (fun _ => .nil) (by exact ⟨_, _, rfl⟩) ?_
  repeat walk_at "ev"
  refine ⟨_, _, rfl, _, rfl, by omega, by omega, k1, fun d d0 d1 => ?_⟩
  have hd : d.toNat < xs.length := by omega
  exact rd_k (r := rIx) rfl (ix_lst ⟨d.toNat, by omega, List.getElem?_eq_getElem hd⟩ ⟨k + 1, rfl, hf _ (List.getElem_mem hd)⟩)
end
abbrev s_l_cells : Stmt := topS 23
abbrev n_l_cells : List Str := ["_law_script", "_law_most"]
abbrev p_l_cells : List Str := ["_law_script", "_law_most"]
theorem sc_l_cells : FnScope n_l_cells p_l_cells (defScope s_l_cells) := ⟨rfl, rfl, rfl, by decide +kernel, rfl, by decide +kernel, by decide +kernel⟩

section
variable {P : Program} {w : World} {K : PySem.W.Frag} {mg : Str → Option Value} {base : Heap}
def fs_cells : FS := fun ds R _ => ∃ ns m, ds = [.scr ns, .int m] ∧ 0 ≤ m ∧ m ≤ 100 ∧ ∀ n : Nat, n ≤ 100 → R (.lst (intsD 0 n))
theorem ok_cells {f : Addr} {fd : FuncData} (B : Bt mg) (F : Fun K "_law_cells" "_law_cells" s_l_cells f fd) : FnG P w K mg base CX0 1 f fd p_l_cells (spD K fs_cells) := by
  refine okG F sc_l_cells (spD_len fun ds R Z ⟨ns, m, e, _⟩ => by rw [e]; rfl) (fun cdv A outer s H vs Q E gd hr ⟨G, ds, R, Z, le, kd, hf, hq, hz⟩ => ?_)
  obtain ⟨ns, m, rfl, m0, m1, hf⟩ := hf
  refine ⟨_, PSs.nox ((pss_one (ps_ret (pe_listRg rfl rfl B.b_list (prg_1 rfl B.b_range (pe_callB (call_max2 rfl) rfl B.b_max bt_max (pa_cons pe_int (pa_cons (pe_callB (call_min2 rfl) rfl B.b_min bt_min (pa_cons (pv 1) (pa_cons (pe_callB ((CallR.or call_len_seq call_len_str)) rfl B.b_len bt_len (pa_cons (pv 0) pa_nil)) pa_nil))) pa_nil)))))))), fin_D le kd hq ?_⟩
  refine xs_ret (EvN.ev (en_listRg ?_))
  repeat walk_at "ev"
  refine ⟨(if (if (ns.length : Int) < m then (ns.length : Int) else m) > 1 then (if (ns.length : Int) < m then (ns.length : Int) else m) else 1).toNat, ?_, ?_, hf _ ?_⟩
  · congr 1
    split <;> split <;> omega
  · split <;> split <;> omega
  · split <;> split <;> omega
end
abbrev s_l_some : Stmt := topS 20
abbrev n_l_some : List Str := ["_law_pot_here", "_law_pool", "_law_many", "_law_rest", "_law_found", "_law_lap"]
abbrev p_l_some : List Str := ["_law_pot_here", "_law_pool", "_law_many"]
theorem sc_l_some : FnScope n_l_some p_l_some (defScope s_l_some) := ⟨rfl, rfl, rfl, by decide +kernel, rfl, by decide +kernel, by decide +kernel⟩

section
variable {P : Program} {w : World} {K : PySem.W.Frag} {mg : Str → Option Value} {base : Heap}
def fp_some : FP := fun k ds R _ => ∃ xs, ∃ m : Nat, (ds = [.lst xs, .int (m : Int)] ∨ ds = [.tup xs, .int (m : Int)]) ∧ m ≤ xs.length ∧ xs.length ≤ 1000 ∧ k + m < 2 ^ 40 ∧ ∀ ys zs, (ys ++ zs).Perm xs → ys.length = m → R (.lst ys) (k + m)
theorem perm_pop {α : Type} {ys zs : List α} {n : Nat} {x : α} (h : zs[n]? = some x) : ((ys ++ [x]) ++ zs.eraseIdx n).Perm (ys ++ zs) := by
  have key : ∀ (l : List α) (m : Nat), l[m]? = some x → (x :: l.eraseIdx m).Perm l := by
    intro l
    induction l with
    | nil =>
      intro m hm
      simp at hm
    | cons a l ih =>
      intro m hm
      cases m with
      | zero =>
        simp at hm
        subst hm
        exact List.Perm.refl _
      | succ m =>
        have := ih m (by simpa using hm)
        exact (List.Perm.swap a x _).trans (this.cons a)
  rw [List.append_assoc]
  exact (key zs n h).append_left ys
theorem ok_some {f : Addr} {fd : FuncData} (B : Bt mg) (c_l_take : Cal P w K mg base CX0 1 "_law_take" p_l_take [] (spP K fp_take)) (F : Fun K "_law_some" "_law_some" s_l_some f fd) : FnG P w K mg base CX0 2 f fd p_l_some (spP K fp_some) := by
  refine okG F sc_l_some (spP_len fun k ds R Z ⟨xs, m, e, _⟩ => by rcases e with e | e <;> rw [e] <;> rfl) (fun cdv A outer s H vs Q E gd hr ⟨a, ws, G, ds, k, R, Z, ev, le, ga, pa, kd, hf, hq, hz⟩ => ?_)
  obtain ⟨xs, m, e, m1, x1, k1, hf⟩ := hf
  subst ev
  refine ⟨_, PSs.nox ((pss_cons (ps_par (i := 3) (j := 4) rfl sc_l_some.nd rfl rfl (by decide) rfl rfl (pa_cons (pe_callTy (call_list_of) rfl B.b_list bt_list (pa_cons (pv 1) pa_nil)) (pa_cons (pe_lst pa_nil) pa_nil)) rfl)
      (pss_cons (ps_for PassesOwn.never rfl (pi_range1 rfl B.b_range (pa_cons (pv 2) pa_nil)) (pg_name (i := 5) sc_l_some.nd rfl (by first | exact Or.inl rfl | exact Or.inr rfl))
      (pss_one (ps_expr (pe_bm PySem.F.plainAttrs_list PySem.F.slot_list_append PySem.F.type_list_append mt_append (pv 4) (pa_cons (pe_bm PySem.F.plainAttrs_list PySem.F.slot_list_pop PySem.F.type_list_pop mt_popAt (pv 3) (pa_cons (pe_cal c_l_take gd (hr.mono (by first | decide | omega)) pass0 (pa_cons (pv 0) (pa_cons (pe_callB ((CallR.or call_len_seq call_len_str)) rfl B.b_len bt_len (pa_cons (pv 3) pa_nil)) pa_nil))) pa_nil)) pa_nil)))))
      (pss_one (ps_ret (pv 4)))))), fin_P le ga pa kd hq ?_⟩
  have hρ : ∃ d1, ds = [d1, .int (m : Int)] ∧ (d1 = .lst xs ∨ d1 = .tup xs) := by
    rcases e with e | e
    · exact ⟨_, e, .inl rfl⟩
    · exact ⟨_, e, .inr rfl⟩
  obtain ⟨d1, rfl, hd1⟩ := hρ
  refine xs_seq (xs_parNN (by decide) (en_list ?_))
  repeat walk_at "ev"
  refine ⟨xs, ?_, en_lst ?_⟩
  · rcases hd1 with rfl | rfl
    · exact .inl rfl
    · exact .inr rfl
  repeat walk_at "ev"
  refine xs_for (is := [5]) (fun _ i ρ => ∃ ys zs, ∃ u : Slot, (ys ++ zs).Perm xs ∧ ys.length = i ∧ ρ = [.pot a (k + i), .dat d1, .dat (.int (m : Int)), .own zs, .own ys, u]) (ei_range1 ?_)
  repeat walk_at "ev"
  refine ⟨by omega, by omega, ⟨[], xs, .un, List.Perm.refl _, rfl, rfl⟩, fun i d ρ hd hI => ?_, fun ρ hI => ?_⟩
  · obtain ⟨ys, zs, u, hp, hl, rfl⟩ := hI
    obtain ⟨rfl, hi⟩ := ints_get hd
    have hlen := hp.length_eq
    rw [List.length_append] at hlen
    refine eg_name (xs_drop (ev_append rfl ⟨_, rfl⟩ (ev_popAt rfl ⟨_, rfl⟩ (ev_callP (Z := fun _ _ => False) Flies.none (fun _ => .nil) (by exact ⟨_, _, rfl⟩) ?_))))
    refine ea_cons (ev_thaw (i := 3) rfl (er_cb (era_cons (er_var rfl (era_nil ?_)))))
    refine rc_k (r := rLenA) rfl (len_lst ⟨rfl, ea_nil ?_⟩)
    refine ⟨_, _, rfl, _, rfl, by omega, by omega, by omega, fun c c0 c1 => ?_⟩
    have hc : c.toNat < zs.length := by omega
    refine ⟨zs, zs[c.toNat], c.toNat, by rw [Int.toNat_of_nonneg c0], by omega, rfl, List.getElem?_eq_getElem hc, ys, rfl, by omega, ys ++ [zs[c.toNat]], zs.eraseIdx c.toNat, _, (perm_pop (List.getElem?_eq_getElem hc)).trans hp, by rw [List.length_append]; simp [hl], rfl⟩
  · obtain ⟨ys, zs, u, hp, hl, rfl⟩ := hI
    rw [ints_len] at hl ⊢
    have hm : (m : Int).toNat = m := by omega
    rw [hm] at hl ⊢
    refine xs_ret (ev_take (i := 4) rfl (ev_var rfl ⟨k + m, rfl, hf ys zs hp hl⟩))
end
abbrev s_l_gcd : Stmt := topS 17
abbrev n_l_gcd : List Str := ["_law_some_here", "_law_found", "_law_number", "_law_rest"]
abbrev p_l_gcd : List Str := ["_law_some_here"]
theorem sc_l_gcd : FnScope n_l_gcd p_l_gcd (defScope s_l_gcd) := ⟨rfl, rfl, rfl, by decide +kernel, rfl, by decide +kernel, by decide +kernel⟩

section
variable {P : Program} {w : World} {K : PySem.W.Frag} {mg : Str → Option Value} {base : Heap}
def gcds (ns : List Int) : Nat := ns.foldl (fun g n => Nat.gcd g n.natAbs) 0
def fs_gcd : FS := fun ds R _ => ∃ ns : List Int, ds = [.lst (ns.map .int)] ∧ R (.int (gcds ns : Nat))
theorem gcds_take {ns : List Int} {i : Nat} {n : Int} (h : ns[i]? = some n) : gcds (ns.take (i + 1)) = Nat.gcd (gcds (ns.take i)) n.natAbs := by
  unfold gcds
  rw [List.take_add_one, h]
  simp [List.foldl_append]
theorem ok_gcd {f : Addr} {fd : FuncData} (B : Bt mg) (F : Fun K "_law_gcd" "_law_gcd" s_l_gcd f fd) : FnG P w K mg base CX0 1 f fd p_l_gcd (spD K fs_gcd) := by
  refine okG F sc_l_gcd (spD_len fun ds R Z ⟨ns, e, _⟩ => by rw [e]; rfl) (fun cdv A outer s H vs Q E gd hr ⟨G, ds, R, Z, le, kd, hf, hq, hz⟩ => ?_)
  obtain ⟨ns, rfl, hf⟩ := hf
  refine ⟨_, PSs.nox ((pss_cons (ps_set (i := 1) sc_l_gcd.nd rfl (by first | exact Or.inl rfl | exact Or.inr rfl) pe_int)
      (pss_cons (ps_for PassesOwn.never rfl (pi_list (pv 0)) (pg_name (i := 2) sc_l_gcd.nd rfl (by first | exact Or.inl rfl | exact Or.inr rfl))
      (pss_cons (ps_set (i := 3) sc_l_gcd.nd rfl (by first | exact Or.inl rfl | exact Or.inr rfl) (pe_callB (call_abs) rfl B.b_abs bt_abs (pa_cons (pe_callTy (call_int1) rfl B.b_int bt_int (pa_cons (pv 2) pa_nil)) pa_nil)))
      (pss_one (ps_while PassesOwn.never (pt_cmpR op_gt (pv 3) pe_int (nomark _))
      (pss_one (ps_par (i := 1) (j := 3) rfl sc_l_gcd.nd rfl rfl (by decide) rfl rfl (pa_cons (pv 3) (pa_cons (pe_op op_modN (pe_callTy (call_int1) rfl B.b_int bt_int (pa_cons (pv 1) pa_nil)) (pv 3)) pa_nil)) rfl))))))
      (pss_one (ps_ret (pv 1)))))), fin_D le kd hq ?_⟩
  refine xs_seq (xs_set (ev_int ?_))
  refine xs_seq ?_
  refine xs_for (is := [2]) (fun _ i ρ => ∃ u1 u2 : Slot, ρ = [.dat (.lst (ns.map .int)), .dat (.int (gcds (ns.take i) : Nat)), u1, u2]) (ei_list (ev_var rfl ?_))
  refine ⟨_, rfl, ⟨.un, .un, rfl⟩, fun i d ρ hd hI => ?_, fun ρ hI => ?_⟩
  · obtain ⟨u1, u2, rfl⟩ := hI
    rw [List.getElem?_map] at hd
    obtain ⟨n, hn, rfl⟩ := Option.map_eq_some_iff.mp hd
    refine eg_name ?_
    refine xs_seq (xs_set ?_)
    repeat walk_at "ev"
    have ea : (if n < 0 then -n else n) = (n.natAbs : Int) := by split <;> omega
    rw [ea]
    refine xs_while (fun m ρ => ∃ g r : Nat, m = r ∧ Nat.gcd g r = gcds (ns.take (i + 1)) ∧ ρ = [.dat (.lst (ns.map .int)), .dat (.int (g : Int)), .dat (.int n), .dat (.int (r : Int))]) ⟨_, n.natAbs, rfl, (gcds_take hn).symm, rfl⟩ fun m ρ hm => ?_
    obtain ⟨g, r, hmr, hg, rfl⟩ := hm
    repeat walk_at "ev"
    refine ⟨fun h => ?_, fun h => ?_⟩
    · have hr0 : (0 : Int) < (r : Int) := of_decide_eq_true h
      refine xs_parDD ?_
      repeat walk_at "ev"
      refine rd_I (show (r : Int) ≠ 0 by omega) ?_
      have e1 : (g : Int).fmod (r : Int) = ((g % r : Nat) : Int) := by
        rw [Int.fmod_eq_emod_of_nonneg _ (by omega)]
        rfl
      rw [e1]
      refine ⟨g % r, by rw [hmr]; exact Nat.mod_lt _ (by omega), r, g % r, rfl, ?_, rfl⟩
      rw [← hg, Nat.gcd_comm g r, Nat.gcd_rec r g, Nat.gcd_comm]
    · have h : ¬ (0 : Int) < (r : Int) := of_decide_eq_false h
      have r0 : r = 0 := by omega
      subst r0
      rw [Nat.gcd_zero_right] at hg
      subst hg
      exact ⟨_, _, rfl⟩
  · obtain ⟨u1, u2, rfl⟩ := hI
    refine xs_ret (ev_var rfl ?_)
    rw [List.length_map, List.take_length]
    exact hf
theorem gcds2 (a b : Int) : gcds [a, b] = Nat.gcd a.natAbs b.natAbs := by
  unfold gcds
  simp
end
end K02
namespace K02
variable [TabT]
abbrev s_l_fraction : Stmt := topS 18
abbrev n_l_fraction : List Str := ["_law_top", "_law_low", "_law_size"]
abbrev p_l_fraction : List Str := ["_law_top", "_law_low"]
theorem sc_l_fraction : FnScope n_l_fraction p_l_fraction (defScope s_l_fraction) := ⟨rfl, rfl, rfl, by decide +kernel, rfl, by decide +kernel, by decide +kernel⟩

section
variable {P : Program} {w : World} {K : PySem.W.Frag} {mg : Str → Option Value} {base : Heap}
def fs_lfraction : FS := fun ds R _ => ∃ t l : Int, ds = [.int t, .int l] ∧ 0 < l ∧ l.natAbs < 2 ^ 8950 ∧ R (frq (mkRat t l.toNat))
theorem ok_lfraction {f : Addr} {fd : FuncData} (B : Bt mg) (c_l_gcd : Cal P w K mg base CX0 1 "_law_gcd" p_l_gcd [] (spD K fs_gcd)) (F : Fun K "_law_fraction" "_law_fraction" s_l_fraction f fd) : FnG P w K mg base CX0 2 f fd p_l_fraction (spD K fs_lfraction) := by
  refine okG F sc_l_fraction (spD_len fun ds R Z ⟨t, l, e, _⟩ => by rw [e]; rfl) (fun cdv A outer s H vs Q E gd hr ⟨G, ds, R, Z, le, kd, hf, hq, hz⟩ => ?_)
  obtain ⟨t, l, rfl, l0, lb, hf⟩ := hf
  rw [frq_mk l0] at hf
  refine ⟨_, PSs.nox ((pss_cons (ps_set (i := 2) sc_l_fraction.nd rfl (by first | exact Or.inl rfl | exact Or.inr rfl) (pe_op op_timesA (pe_cal c_l_gcd gd (hr.mono (by first | decide | omega)) pass0 (pa_cons (pe_lst (pa_cons (pv 0) (pa_cons (pv 1) pa_nil))) pa_nil)) (pe_ifExp (pt_cmpR op_gt (pv 1) pe_int (nomark _)) pe_int (pe_un un_neg pe_int))))
      (pss_one (ps_ret (pe_tup (pa_cons (pe_op op_fdivG (pv 0) (pv 2)) (pa_cons (pe_op op_fdivG (pv 1) (pv 2)) pa_nil))))))), fin_D le kd hq ?_⟩
  refine xs_seq (xs_set ?_)
  refine ev_op (ev_call (Z := fun _ _ => False) Flies.none (fun _ => .nil) ?_)
  repeat walk_at "ev"
  refine ⟨[t, l], rfl, ?_⟩
  rw [gcds2]
  have hl : 0 < l.natAbs := by omega
  have g0 : 0 < Nat.gcd t.natAbs l.natAbs := Nat.gcd_pos_of_pos_right _ hl
  have g1 : Nat.gcd t.natAbs l.natAbs ≤ l.natAbs := Nat.gcd_le_right _ hl
  generalize Nat.gcd t.natAbs l.natAbs = g at g0 g1 hf
  have gb : ((g : Nat) : Int).natAbs < 2 ^ 8950 := by
    rw [Int.natAbs_natCast]
    exact Nat.lt_of_le_of_lt g1 lb
  repeat walk_at "ev"
  refine ⟨fun h => ?_, fun h => ?_⟩
  · repeat walk_at "ev"
    refine rd_k (r := rTimesA) rfl (DL.mul_int (mulW (a := 8950) (b := 2) gb (by decide) (by decide)) ?_)
    rw [Int.mul_one]
    refine xs_ret ?_
    repeat walk_at "ev"
    refine rd_I (fdivG (a := 8950) (by omega) gb (by decide)) ?_
    repeat walk_at "ev"
    refine rd_I (fdivG (a := 8950) (by omega) gb (by decide)) ?_
    repeat walk_at "ev"
    exact hf
  · have h : ¬ (0 : Int) < l := of_decide_eq_false h
    exact absurd l0 h
end
abbrev s_l_ones : Stmt := topS 16
abbrev n_l_ones : List Str := ["_law_many"]
abbrev p_l_ones : List Str := ["_law_many"]
theorem sc_l_ones : FnScope n_l_ones p_l_ones (defScope s_l_ones) := ⟨rfl, rfl, rfl, by decide +kernel, rfl, by decide +kernel, by decide +kernel⟩

abbrev s_l_sum : Stmt := topS 19
abbrev n_l_sum : List Str := ["_law_fractions", "_law_weights", "_law_top", "_law_low", "_law_one", "_law_weight", "_law_share"]
abbrev p_l_sum : List Str := ["_law_fractions", "_law_weights"]
theorem sc_l_sum : FnScope n_l_sum p_l_sum (defScope s_l_sum) := ⟨rfl, rfl, rfl, by decide +kernel, rfl, by decide +kernel, by decide +kernel⟩

section
variable {P : Program} {w : World} {K : PySem.W.Frag} {mg : Str → Option Value} {base : Heap}
def fs_ones : FS := fun ds R _ => ∃ n : Nat, ds = [.int (n : Int)] ∧ n ≤ 1000 ∧ R (.tup (List.replicate n (frq 1)))
theorem rep_flat (n : Nat) : (List.replicate n [D.tup [D.int 1, D.int 1]]).flatten = List.replicate n (frq 1) := by
  have e1 : frq 1 = D.tup [D.int 1, D.int 1] := rfl
  rw [e1]
  induction n with
  | zero => rfl
  | succ n ih =>
    rw [List.replicate_succ, List.flatten_cons, ih, List.replicate_succ]
    rfl
theorem ok_ones {f : Addr} {fd : FuncData} (B : Bt mg) (F : Fun K "_law_ones" "_law_ones" s_l_ones f fd) : FnG P w K mg base CX0 1 f fd p_l_ones (spD K fs_ones) := by
  refine okG F sc_l_ones (spD_len fun ds R Z ⟨n, e, _⟩ => by rw [e]; rfl) (fun cdv A outer s H vs Q E gd hr ⟨G, ds, R, Z, le, kd, hf, hq, hz⟩ => ?_)
  obtain ⟨n, rfl, n1, hf⟩ := hf
  refine ⟨_, PSs.nox ((pss_one (ps_ret (pe_op op_timesA (pe_tup (pa_cons (pe_tup (pa_cons pe_int (pa_cons pe_int pa_nil))) pa_nil)) (pv 0))))), fin_D le kd hq ?_⟩
  refine xs_ret ?_
  repeat walk_at "ev"
  refine rd_k (r := rTimesA) rfl (mul_tup (by simp) n1 (by simp) ?_)
  have e : (List.replicate n [D.tup [D.int 1, D.int 1]]).flatten = List.replicate n (frq 1) := rep_flat n
  rw [e]
  exact hf
def frA (ps : List Pq) : D := .tup (ps.map fun p => frq p.1)
def frB (ps : List Pq) : D := .tup (ps.map fun p => frq p.2)
theorem zips_fr (ps : List Pq) : zips (ps.map fun p => frq p.1) (ps.map fun p => frq p.2) = ps.map fun p => .tup [frq p.1, frq p.2] := by
  induction ps with
  | nil => rfl
  | cons p ps ih => simp [zips, ih]
def SmL (ps : List Pq) : Prop := ∃ c, 1 ≤ c ∧ (∀ p ∈ ps, SmP c p) ∧ (2 * c + 1) * (ps.length + 2) ≤ 8900 ∧ ps.length ≤ 1000
theorem SmL.take {ps : List Pq} {c : Nat} (h : ∀ p ∈ ps, SmP c p) (hc : (2 * c + 1) * (ps.length + 2) ≤ 8900) (i : Nat) : (unc (ps.take i)).1.natAbs < 2 ^ 8900 ∧ (unc (ps.take i)).2 < 2 ^ 8900 := by
  obtain ⟨a, b⟩ := unc_small (c := c) (ps.take i) fun p hp => h p (List.mem_of_mem_take hp)
  have hl : (ps.take i).length ≤ ps.length := by rw [List.length_take]; omega
  have e1 : (2 * c + 1) * ((ps.take i).length + 1) ≤ (2 * c + 1) * (ps.length + 2) := Nat.mul_le_mul_left _ (by omega)
  have e2 : (2 * c + 1) * (ps.take i).length + 1 ≤ (2 * c + 1) * ((ps.take i).length + 1) := by rw [Nat.mul_add]; omega
  exact ⟨Nat.lt_of_lt_of_le a (Nat.pow_le_pow_right (by decide) (by omega)), Nat.lt_of_lt_of_le b (Nat.pow_le_pow_right (by decide) (by omega))⟩
def fs_lsum : FS := fun ds R _ => ∃ ps, ds = [frA ps, frB ps] ∧ SmL ps ∧ R (frq (sumP ps))
theorem ok_lsum {f : Addr} {fd : FuncData} (B : Bt mg) (c_l_fraction : Cal P w K mg base CX0 2 "_law_fraction" p_l_fraction [] (spD K fs_lfraction)) (F : Fun K "_law_sum" "_law_sum" s_l_sum f fd) : FnG P w K mg base CX0 3 f fd p_l_sum (spD K fs_lsum) := by
  refine okG F sc_l_sum (spD_len fun ds R Z ⟨ps, e, _⟩ => by rw [e]; rfl) (fun cdv A outer s H vs Q E gd hr ⟨G, ds, R, Z, le, kd, hf, hq, hz⟩ => ?_)
  obtain ⟨ps, rfl, ⟨c, c1, hS, hc, hn⟩, hf⟩ := hf
  have cb : c ≤ 8900 := by
    have : 2 * c + 1 ≤ (2 * c + 1) * (ps.length + 2) := Nat.le_mul_of_pos_right _ (by omega)
    omega
  refine ⟨_, PSs.nox ((pss_cons (ps_asg (pe_tup (pa_cons pe_int (pa_cons pe_int pa_nil))) (pg_tup rfl (pgs_cons (pg_name (i := 2) sc_l_sum.nd rfl (by first | exact Or.inl rfl | exact Or.inr rfl)) (pgs_cons (pg_name (i := 3) sc_l_sum.nd rfl (by first | exact Or.inl rfl | exact Or.inr rfl)) pgs_nil))))
      (pss_cons (ps_for PassesOwn.never rfl (RZ.pi_zipA rfl B.b_zip (pa_cons (pv 0) (pa_cons (pv 1) pa_nil))) (pg_tup rfl (pgs_cons (pg_name (i := 4) sc_l_sum.nd rfl (by first | exact Or.inl rfl | exact Or.inr rfl)) (pgs_cons (pg_name (i := 5) sc_l_sum.nd rfl (by first | exact Or.inl rfl | exact Or.inr rfl)) pgs_nil)))
      (pss_cons (ps_set (i := 6) sc_l_sum.nd rfl (by first | exact Or.inl rfl | exact Or.inr rfl) (pe_op op_timesA (pe_ix ix_seq (pv 4) pe_int (fun _ _ => rfl)) (pe_ix ix_seq (pv 5) pe_int (fun _ _ => rfl))))
      (pss_cons (ps_set (i := 2) sc_l_sum.nd rfl (by first | exact Or.inl rfl | exact Or.inr rfl) (pe_op op_plus (pe_op op_timesA (pv 2) (pv 6)) (pe_op op_timesA (pe_op op_timesA (pe_ix ix_seq (pv 4) pe_int (fun _ _ => rfl)) (pe_ix ix_seq (pv 5) pe_int (fun _ _ => rfl))) (pv 3))))
      (pss_one (ps_set (i := 3) sc_l_sum.nd rfl (by first | exact Or.inl rfl | exact Or.inr rfl) (pe_op op_timesA (pv 3) (pv 6)))))))
      (pss_one (ps_ret (pe_cal c_l_fraction gd (hr.mono (by first | decide | omega)) pass0 (pa_cons (pv 2) (pa_cons (pv 3) pa_nil)))))))), fin_D le kd hq ?_⟩
  refine xs_seq (xs_asg (is := [2, 3]) ?_)
  repeat walk_at "ev"
  refine eg_tup rfl (egs_cons (is := [2]) (js := [3]) (eg_name (egs_cons (is := [3]) (js := []) (eg_name (egs_nil ?_)))))
  refine xs_seq ?_
  refine xs_for (is := [4, 5]) (fun _ i ρ => ∃ u1 u2 u3 : Slot, ρ = [.dat (frA ps), .dat (frB ps), .dat (.int (unc (ps.take i)).1), .dat (.int ((unc (ps.take i)).2 : Int)), u1, u2, u3]) (ei_zip ?_)
  repeat walk_at "ev"
  refine ⟨_, _, .inr rfl, ?_⟩
  rw [zips_fr]
  refine ⟨⟨.un, .un, .un, rfl⟩, fun i d ρ hd hI => ?_, fun ρ hI => ?_⟩
  · obtain ⟨u1, u2, u3, rfl⟩ := hI
    rw [List.getElem?_map] at hd
    obtain ⟨p, hp, rfl⟩ := Option.map_eq_some_iff.mp hd
    have hm : p ∈ ps := List.mem_of_getElem? hp
    obtain ⟨⟨a1, a2⟩, b1, b2⟩ := hS p hm
    obtain ⟨t1, t2⟩ := SmL.take hS hc i
    have a2' : (p.1.den : Int).natAbs < 2 ^ c := by rw [Int.natAbs_natCast]; exact a2
    have b2' : (p.2.den : Int).natAbs < 2 ^ c := by rw [Int.natAbs_natCast]; exact b2
    have t2' : ((unc (ps.take i)).2 : Int).natAbs < 2 ^ 8900 := by rw [Int.natAbs_natCast]; exact t2
    refine eg_tup rfl (egs_cons (is := [4]) (js := [5]) (eg_name (egs_cons (is := [5]) (js := []) (eg_name (egs_nil ?_)))))
    refine xs_seq (xs_set ?_)
    repeat walk_at "ev"
    refine rd_k (r := rIx) rfl (ix_tupl ⟨1, rfl, rfl⟩ ?_)
    repeat walk_at "ev"
    refine rd_k (r := rIx) rfl (ix_tupl ⟨1, rfl, rfl⟩ ?_)
    refine rd_k (r := rTimesA) rfl (DL.mul_int (mulW a2' b2' (by omega)) ?_)
    have sb := nbX a2' b2'
    refine xs_seq (xs_set ?_)
    repeat walk_at "ev"
    refine rd_k (r := rTimesA) rfl (DL.mul_int (mulW t1 sb (by omega)) ?_)
    repeat walk_at "ev"
    refine rd_k (r := rIx) rfl (ix_tupl ⟨0, rfl, rfl⟩ ?_)
    repeat walk_at "ev"
    refine rd_k (r := rIx) rfl (ix_tupl ⟨0, rfl, rfl⟩ ?_)
    refine rd_k (r := rTimesA) rfl (DL.mul_int (mulW a1 b1 (by omega)) ?_)
    repeat walk_at "ev"
    refine rd_k (r := rTimesA) rfl (DL.mul_int (mulW (nbX a1 b1) t2' (by omega)) ?_)
    repeat walk_at "ev"
    refine xs_set ?_
    repeat walk_at "ev"
    refine rd_k (r := rTimesA) rfl (DL.mul_int (mulW t2' sb (by omega)) ?_)
    have E1 : (unc (ps.take (i + 1))).1 = (unc (ps.take i)).1 * ((p.1.den : Int) * (p.2.den : Int)) + p.1.num * p.2.num * ((unc (ps.take i)).2 : Int) := by
      rw [unc_take hp]
      simp [stepU]
    have E2 : ((unc (ps.take (i + 1))).2 : Int) = ((unc (ps.take i)).2 : Int) * ((p.1.den : Int) * (p.2.den : Int)) := by
      rw [unc_take hp]
      simp [stepU]
    rw [E1, E2]
    exact ⟨_, _, _, rfl⟩
  · obtain ⟨u1, u2, u3, rfl⟩ := hI
    rw [List.length_map, List.take_length]
    obtain ⟨h0, h1⟩ := unc_val ps
    have t2 := (SmL.take hS hc ps.length).2
    rw [List.take_length] at t2
    refine xs_ret (ev_call (Z := fun _ _ => False) Flies.none (fun _ => .nil) ?_)
    repeat walk_at "ev"
    refine ⟨_, _, rfl, by omega, ?_, ?_⟩
    · rw [Int.natAbs_natCast]
      exact Nat.lt_of_lt_of_le t2 (Nat.pow_le_pow_right (by decide) (by decide))
    · rw [Int.toNat_natCast, h1]
      exact hf
end
end K02
namespace K02
variable [TabT]

abbrev s_cut : Stmt := topS 10
abbrev n_cut : List Str := ["top", "low", "divisor"]
abbrev p_cut : List Str := ["top", "low"]
theorem sc_cut : FnScope n_cut p_cut (defScope s_cut) := ⟨rfl, rfl, rfl, by decide +kernel, rfl, by decide +kernel, by decide +kernel⟩

section
variable {P : Program} {w : World} {K : PySem.W.Frag} {mg : Str → Option Value} {base : Heap}
def fs_cut : FS := fun ds R _ => ∃ t l : Int, ds = [.int t, .int l] ∧ 0 < l ∧ l.natAbs < 2 ^ 8950 ∧ R (frq (mkRat t l.toNat))
theorem ok_cut {f : Addr} {fd : FuncData} (B : Bt mg) (m_gcd : mg "gcd" = some (.builtin "math.gcd")) (F : Fun K "cut" "cut" s_cut f fd) : FnG P w K mg base CX0 1 f fd p_cut (spD K fs_cut) := by
  refine okG F sc_cut (spD_len fun ds R Z ⟨t, l, e, _⟩ => by rw [e]; rfl) (fun cdv A outer s H vs Q E gd hr ⟨G, ds, R, Z, le, kd, hf, hq, hz⟩ => ?_)
  obtain ⟨t, l, rfl, l0, lb, hf⟩ := hf
  rw [frq_mk l0] at hf
  have hl : 0 < l.natAbs := by omega
  refine ⟨_, PSs.nox ((pss_cons (ps_set (i := 2) sc_cut.nd rfl (by first | exact Or.inl rfl | exact Or.inr rfl) (pe_callBfun cr_gcd rfl m_gcd (pa_cons (pv 0) (pa_cons (pv 1) pa_nil))))
      (pss_one (ps_ret (pe_tup (pa_cons (pe_op op_fdivG (pv 0) (pv 2)) (pa_cons (pe_op op_fdivG (pv 1) (pv 2)) pa_nil))))))), fin_D le kd hq ?_⟩
  repeat walk_at "ev"
  refine xs_set ?_
  repeat walk_at "ev"
  have g0 : 0 < Nat.gcd t.natAbs l.natAbs := Nat.gcd_pos_of_pos_right _ hl
  have g1 : Nat.gcd t.natAbs l.natAbs ≤ l.natAbs := Nat.gcd_le_right _ hl
  generalize Nat.gcd t.natAbs l.natAbs = g at g0 g1 hf
  have gb : ((g : Nat) : Int).natAbs < 2 ^ 8950 := by
    rw [Int.natAbs_natCast]
    exact Nat.lt_of_le_of_lt g1 lb
  refine rd_I (fdivG (a := 8950) (by omega) gb (by decide)) ?_
  repeat walk_at "ev"
  refine rd_I (fdivG (a := 8950) (by omega) gb (by decide)) ?_
  repeat walk_at "ev"
  exact hf
end
abbrev s_fraction : Stmt := topS 11
abbrev n_fraction : List Str := ["top", "low"]
abbrev p_fraction : List Str := ["top", "low"]
theorem sc_fraction : FnScope n_fraction p_fraction (defScope s_fraction) := ⟨rfl, rfl, rfl, by decide +kernel, rfl, by decide +kernel, by decide +kernel⟩

abbrev s_is_integer : Stmt := topS 7
abbrev n_is_integer : List Str := ["value"]
abbrev p_is_integer : List Str := ["value"]
theorem sc_is_integer : FnScope n_is_integer p_is_integer (defScope s_is_integer) := ⟨rfl, rfl, rfl, by decide +kernel, rfl, by decide +kernel, by decide +kernel⟩

abbrev s_is_fraction : Stmt := topS 8
abbrev n_is_fraction : List Str := ["value", "top", "low"]
abbrev p_is_fraction : List Str := ["value"]
theorem sc_is_fraction : FnScope n_is_fraction p_is_fraction (defScope s_is_fraction) := ⟨rfl, rfl, rfl, by decide +kernel, rfl, by decide +kernel, by decide +kernel⟩

abbrev s_are_fractions : Stmt := topS 9
abbrev n_are_fractions : List Str := ["value", "one"]
abbrev p_are_fractions : List Str := ["value"]
theorem sc_are_fractions : FnScope n_are_fractions p_are_fractions (defScope s_are_fractions) := ⟨rfl, rfl, rfl, by decide +kernel, rfl, by decide +kernel, by decide +kernel⟩

abbrev s_total : Stmt := topS 12
abbrev n_total : List Str := ["fractions", "weights", "factors", "top", "low", "over", "under", "times", "parts"]
abbrev p_total : List Str := ["fractions", "weights"]
theorem sc_total : FnScope n_total p_total (defScope s_total) := ⟨rfl, rfl, rfl, by decide +kernel, rfl, by decide +kernel, by decide +kernel⟩

section
variable {P : Program} {w : World} {K : PySem.W.Frag} {mg : Str → Option Value} {base : Heap}
def fs_is_integer : FS := fun ds R _ => ∃ i : Int, ds = [.int i] ∧ R (.bl true)
theorem ok_is_integer {f : Addr} {fd : FuncData} (B : Bt mg) (F : Fun K "is_integer" "is_integer" s_is_integer f fd) : FnG P w K mg base CX0 1 f fd p_is_integer (spD K fs_is_integer) := by
  refine okG F sc_is_integer (spD_len fun ds R Z ⟨d, e, _⟩ => by rw [e]; rfl) (fun cdv A outer s H vs Q E gd hr ⟨G, ds, R, Z, le, kd, hf, hq, hz⟩ => ?_)
  obtain ⟨d, rfl, hf⟩ := hf
  refine ⟨_, PSs.nox ((pss_one (ps_ret (pe_and (pe_callB (call_isi) rfl B.b_isinstance bt_isinstance (pa_cons (pv 0) (pa_cons (pe_bltn (v := .ty "int") rfl B.b_int bt_int rfl) pa_nil))) (pe_one (pe_not (pe_callB (call_isi) rfl B.b_isinstance bt_isinstance (pa_cons (pv 0) (pa_cons (pe_bltn (v := .ty "bool") rfl B.b_bool bt_bool rfl) pa_nil))))))))), fin_D le kd hq ?_⟩
  repeat walk_at "ev"
  refine rc_k (r := rIsi) rfl (rc_isi (n := "int") (b := true) rfl (by decide +kernel) ?_)
  refine ⟨true, rfl, fun _ => ?_, fun h => nomatch h⟩
  repeat walk_at "ev"
  refine rc_k (r := rIsi) rfl (rc_isi (n := "int") (b := false) rfl (by decide +kernel) ?_)
  exact ⟨false, rfl, hf⟩
def fs_is_fraction : FS := fun ds R _ => ∃ q : Rat, ds = [frq q] ∧ R (.bl true)
theorem ok_is_fraction {f : Addr} {fd : FuncData} (B : Bt mg) (m_gcd : mg "gcd" = some (.builtin "math.gcd")) (F : Fun K "is_fraction" "is_fraction" s_is_fraction f fd) : FnG P w K mg base CX0 2 f fd p_is_fraction (spD K fs_is_fraction) := by
  refine okG F sc_is_fraction (spD_len fun ds R Z ⟨q, e, _⟩ => by rw [e]; rfl) (fun cdv A outer s H vs Q E gd hr ⟨G, ds, R, Z, le, kd, hf, hq, hz⟩ => ?_)
  have hu : (cxOf CX0 P w K mg base n_is_fraction "is_fraction" (defScope s_is_fraction) f cdv A outer s H E).nox.A.units + 64 < cLine := hr.units
  obtain ⟨q, rfl, hf⟩ := hf
  refine ⟨_, PSs.nox ((pss_cons (ps_if (PW.pt (pw_or (pt_not (pt_val (pe_callB (call_isi) rfl B.b_isinstance bt_isinstance (pa_cons (pv 0) (pa_cons (pe_bltn (v := .ty "tuple") rfl B.b_tuple bt_tuple rfl) pa_nil))))) (pw_or1 (pt_cmpR (op_neA hu) (pe_callB ((CallR.or call_len_seq call_len_str)) rfl B.b_len bt_len (pa_cons (pv 0) pa_nil)) pe_int (nomark _)))))
      (pss_one (ps_ret pe_bl))
      pss_nil)
      (pss_cons (ps_asg (pv 0) (pg_tup rfl (pgs_cons (pg_name (i := 1) sc_is_fraction.nd rfl (by first | exact Or.inl rfl | exact Or.inr rfl)) (pgs_cons (pg_name (i := 2) sc_is_fraction.nd rfl (by first | exact Or.inl rfl | exact Or.inr rfl)) pgs_nil))))
      (pss_cons (ps_if (PW.pt (pw_or (pt_not (pt_val (pe_callB (call_isi) rfl B.b_isinstance bt_isinstance (pa_cons (pv 1) (pa_cons (pe_bltn (v := .ty "int") rfl B.b_int bt_int rfl) pa_nil))))) (pw_or (pt_not (pt_val (pe_callB (call_isi) rfl B.b_isinstance bt_isinstance (pa_cons (pv 2) (pa_cons (pe_bltn (v := .ty "int") rfl B.b_int bt_int rfl) pa_nil))))) (pw_or (pt_val (pe_callB (call_isi) rfl B.b_isinstance bt_isinstance (pa_cons (pv 1) (pa_cons (pe_bltn (v := .ty "bool") rfl B.b_bool bt_bool rfl) pa_nil)))) (pw_or1 (pt_val (pe_callB (call_isi) rfl B.b_isinstance bt_isinstance (pa_cons (pv 2) (pa_cons (pe_bltn (v := .ty "bool") rfl B.b_bool bt_bool rfl) pa_nil)))))))))
      (pss_one (ps_ret pe_bl))
      pss_nil)
      (pss_one (ps_ret (pe_and (pe_cmpR op_ge (pv 2) pe_int (nomark _)) (pe_one (pe_cmpR (op_eqA hu) (pe_callBfun cr_gcd rfl m_gcd (pa_cons (pv 1) (pa_cons (pv 2) pa_nil))) pe_int (nomark _)))))))))), fin_D le kd hq ?_⟩
  repeat walk_at "ev"
  refine rc_k (r := rIsi) rfl (rc_isi (n := "tuple") (b := true) rfl (by decide +kernel) ?_)
  refine ⟨true, rfl, fun h => (nomatch h), fun _ => ?_⟩
  repeat walk_at "ev"
  refine rd_k (r := rNeA) rfl (rd_or1 (rd_ne rfl rfl (by rfl) (by rfl) ?_))
  refine ⟨false, rfl, fun h => (nomatch h), fun _ => ?_⟩
  repeat walk_at "ev"
  refine xs_asg (is := [1, 2]) (ev_var rfl ?_)
  refine eg_tup rfl (egs_cons (is := [1]) (js := [2]) (eg_name (egs_cons (is := [2]) (js := []) (eg_name (egs_nil ?_)))))
  repeat walk_at "ev"
  refine rc_k (r := rIsi) rfl (rc_isi (n := "int") (b := true) rfl (by decide +kernel) ?_)
  refine ⟨true, rfl, fun h => (nomatch h), fun _ => ?_⟩
  repeat walk_at "ev"
  refine rc_k (r := rIsi) rfl (rc_isi (n := "int") (b := true) rfl (by decide +kernel) ?_)
  refine ⟨true, rfl, fun h => (nomatch h), fun _ => ?_⟩
  repeat walk_at "ev"
  refine rc_k (r := rIsi) rfl (rc_isi (n := "int") (b := false) rfl (by decide +kernel) ?_)
  refine ⟨false, rfl, fun h => (nomatch h), fun _ => ?_⟩
  repeat walk_at "ev"
  refine rc_k (r := rIsi) rfl (rc_isi (n := "int") (b := false) rfl (by decide +kernel) ?_)
  refine ⟨false, rfl, fun h => (nomatch h), fun _ => ?_⟩
  repeat walk_at "ev"
  have hd : (1 : Int) ≤ (q.den : Int) := by have := q.den_pos; omega
  refine ⟨fun _ => ?_, fun h => absurd hd (of_decide_eq_false h)⟩
  repeat walk_at "ev"
  refine rd_k (r := rEqA) rfl (rd_or1 (rd_eq rfl rfl (by rfl) (by rfl) ?_))
  have e : PyData.eqv (.int ((Nat.gcd q.num.natAbs (q.den : Int).natAbs : Nat) : Int)) (.int 1) = true := by
    rw [Int.natAbs_natCast, show Nat.gcd q.num.natAbs q.den = 1 from q.reduced]
    rfl
  rw [e]
  exact hf
def fs_are : FS := fun ds R _ => ∃ qs : List Rat, ds = [.tup (qs.map frq)] ∧ qs.length ≤ 1000 ∧ R (.bl true)
theorem ok_are {f : Addr} {fd : FuncData} (B : Bt mg) (c_is_fraction : Cal P w K mg base CX0 2 "is_fraction" p_is_fraction [] (spD K fs_is_fraction)) (F : Fun K "are_fractions" "are_fractions" s_are_fractions f fd) : FnG P w K mg base CX0 3 f fd p_are_fractions (spD K fs_are) := by
  refine okG F sc_are_fractions (spD_len fun ds R Z ⟨q, e, _⟩ => by rw [e]; rfl) (fun cdv A outer s H vs Q E gd hr ⟨G, ds, R, Z, le, kd, hf, hq, hz⟩ => ?_)
  obtain ⟨qs, rfl, hl, hf⟩ := hf
  refine ⟨_, PSs.nox ((pss_one (ps_ret (pe_and (pe_callB (call_isi) rfl B.b_isinstance bt_isinstance (pa_cons (pv 0) (pa_cons (pe_bltn (v := .ty "tuple") rfl B.b_tuple bt_tuple rfl) pa_nil))) (pe_one (pe_callB (cr_all rfl) rfl B.b_all bt_all (pa_cons (pe_lc (own := [("one", 1)]) (g := (gName 1)) (tt := tYes) rfl sc_are_fractions.nd (pi_tup (pv 0)) (blkOk_by (N := n_are_fractions) (sc := defScope s_are_fractions) (by decide +kernel)) (fun _ _ _ _ _ => (pg_name (i := 1) sc_are_fractions.nd rfl (by first | exact Or.inl rfl | exact Or.inr rfl))) (fun _ _ _ _ _ => pts_nil) (fun _ _ _ _ _ => (pe_cal c_is_fraction gd (hr.mono (by first | decide | omega)) pass0 (pa_cons (pv 1) pa_nil)))) pa_nil))))))), fin_D le kd hq ?_⟩
  repeat walk_at "ev"
  refine rc_k (r := rIsi) rfl (rc_isi (n := "tuple") (b := true) rfl (by decide +kernel) ?_)
  refine ⟨true, rfl, fun _ => ?_, fun h => (nomatch h)⟩
  repeat walk_at "ev"
  refine EvN.ev (en_lc (is := [1]) (fun _ i acc ρ => acc = List.replicate i (.bl true) ∧ ρ = [.dat (.tup (qs.map frq)), .un]) (by decide) (ei_tup (ev_var rfl ?_)))
  refine ⟨_, rfl, by rw [List.length_map]; omega, ⟨rfl, rfl⟩, fun i d acc ρ hd hI => ?_, fun acc ρ hl2 hI => ?_⟩
  · obtain ⟨rfl, e⟩ := hI
    rw [List.getElem?_map] at hd
    obtain ⟨q, hq, rfl⟩ := Option.map_eq_some_iff.mp hd
    rw [e]
    refine eg_name (et_yes ⟨fun _ => ?_, fun h => nomatch h⟩)
    refine ev_call (Z := fun _ _ => False) Flies.none (fun _ => .nil) ?_
    repeat walk_at "ev"
    exact ⟨by rw [List.replicate_succ'], rfl⟩
  · obtain ⟨rfl, e⟩ := hI
    repeat walk_at "ev"
    rw [List.length_map, show List.replicate qs.length (D.bl true) = (List.replicate qs.length true).map .bl by rw [List.map_replicate]]
    refine rc_k (r := rAll) rfl (rc_all ?_)
    rw [show (List.replicate qs.length true).all id = true by simp]
    exact hf
def fs_pfraction : FS := fun ds R _ => ∃ t l : Int, ds = [.int t, .int l] ∧ 0 < l ∧ l.natAbs < 2 ^ 8950 ∧ R (frq (mkRat t l.toNat))
theorem ok_pfraction {f : Addr} {fd : FuncData} (B : Bt mg) (c_cut : Cal P w K mg base CX0 1 "cut" p_cut [] (spD K fs_cut)) (c_is_integer : Cal P w K mg base CX0 1 "is_integer" p_is_integer [] (spD K fs_is_integer)) (F : FunD K "fraction" "fraction" (defArgs s_fraction) (defBody s_fraction) (defScope s_fraction) [.int 1] [] f fd) : FnG P w K mg base CX0 2 f fd p_fraction (spD K fs_pfraction) := by
  refine okGD F sc_fraction (spD_len fun ds R Z ⟨t, l, e, _⟩ => by rw [e]; rfl) (fun cdv A outer s H vs Q E gd hr ⟨G, ds, R, Z, le, kd, hf, hq, hz⟩ => ?_)
  have hu : (cxOf CX0 P w K mg base n_fraction "fraction" (defScope s_fraction) f cdv A outer s H E).nox.A.units + 64 < cLine := hr.units
  obtain ⟨t, l, rfl, l0, lb, hf⟩ := hf
  refine ⟨_, PSs.nox ((pss_cons (ps_if (pt_not (pt_val (pe_cal c_is_integer gd (hr.mono (by first | decide | omega)) pass0 (pa_cons (pv 0) pa_nil))))
      (pss_one ps_never)
      pss_nil)
      (pss_cons (ps_if (PW.pt (pw_or (pt_not (pt_val (pe_cal c_is_integer gd (hr.mono (by first | decide | omega)) pass0 (pa_cons (pv 1) pa_nil)))) (pw_or1 (pt_cmpR (op_eqA hu) (pv 1) pe_int (nomark _)))))
      (pss_one ps_never)
      pss_nil)
      (pss_one (ps_ret (pe_ifExp (pt_cmpR op_gt (pv 1) pe_int (nomark _)) (pe_cal c_cut gd (hr.mono (by first | decide | omega)) pass0 (pa_cons (pv 0) (pa_cons (pv 1) pa_nil))) (pe_cal c_cut gd (hr.mono (by first | decide | omega)) pass0 (pa_cons (pe_un un_neg (pv 0)) (pa_cons (pe_un un_neg (pv 1)) pa_nil))))))))), fin_D le kd hq ?_⟩
  repeat walk_at "ev"
  refine ev_call (Z := fun _ _ => False) Flies.none (fun _ => .nil) ?_
  repeat walk_at "ev"
  refine ⟨fun h => (nomatch h), fun _ => ?_⟩
  repeat walk_at "ev"
  refine ev_call (Z := fun _ _ => False) Flies.none (fun _ => .nil) ?_
  repeat walk_at "ev"
  refine ⟨fun h => (nomatch h), fun _ => ?_⟩
  repeat walk_at "ev"
  refine rd_k (r := rEqA) rfl (rd_or1 (rd_eq rfl rfl (by rfl) (by rfl) ?_))
  have e0 : PyData.eqv (.int l) (.int 0) = false := by
    show (l == 0) = false
    exact beq_eq_false_iff_ne.mpr (by omega)
  rw [e0]
  refine ⟨false, rfl, fun h => (nomatch h), fun _ => ?_⟩
  repeat walk_at "ev"
  refine ⟨fun h => ?_, fun h => absurd l0 (of_decide_eq_false h)⟩
  refine ev_call (Z := fun _ _ => False) Flies.none (fun _ => .nil) ?_
  repeat walk_at "ar"
  exact ⟨t, l, rfl, l0, lb, hf⟩
def fs_total : FS := fun ds R _ => ∃ ps d2, ds = [frA ps, d2] ∧ ((d2 = .non ∧ ∀ p ∈ ps, p.2 = 1) ∨ d2 = frB ps) ∧ SmL ps ∧ R (frq (sumP ps))
theorem ones_frB {ps : List Pq} (h : ∀ p ∈ ps, p.2 = 1) : D.tup (List.replicate ps.length (frq 1)) = frB ps := by
  unfold frB
  congr 1
  induction ps with
  | nil => rfl
  | cons p ps ih =>
    rw [List.length_cons, List.replicate_succ, ih fun q hq => h q (by simp [hq]), List.map_cons, h p (by simp)]
theorem rep_flat1 (n : Nat) : (List.replicate n [frq 1]).flatten = List.replicate n (frq 1) := by
  induction n with
  | zero => rfl
  | succ n ih => rw [List.replicate_succ, List.flatten_cons, ih, List.replicate_succ]; rfl
theorem ok_total {f : Addr} {fd : FuncData} {v_ONE : V} {u_ONE : Value} (B : Bt mg) (m_ONE : mg "ONE" = some u_ONE) (r_ONE : RelV v_ONE u_ONE) (d_ONE : ∀ G, Is K G v_ONE (frq 1)) (c_are_fractions : Cal P w K mg base CX0 3 "are_fractions" p_are_fractions [] (spD K fs_are)) (c_cut : Cal P w K mg base CX0 1 "cut" p_cut [] (spD K fs_cut))
    (F : FunD K "total" "total" (defArgs s_total) (defBody s_total) (defScope s_total) [.non] [] f fd) : FnG P w K mg base CX0 4 f fd p_total (spD K fs_total) := by
  refine okGD F sc_total (spD_len fun ds R Z ⟨ps, d2, e, _⟩ => by rw [e]; rfl) (fun cdv A outer s H vs Q E gd hr ⟨G, ds, R, Z, le, kd, hf, hq, hz⟩ => ?_)
  have hu : (cxOf CX0 P w K mg base n_total "total" (defScope s_total) f cdv A outer s H E).nox.A.units + 64 < cLine := hr.units
  obtain ⟨ps, d2, rfl, h2, ⟨c, c1, hS, hc, hlen⟩, hf⟩ := hf
  have hA : (ps.map fun p => frq p.1) = (ps.map Prod.fst).map frq := by rw [List.map_map]; rfl
  have hB : (ps.map fun p => frq p.2) = (ps.map Prod.snd).map frq := by rw [List.map_map]; rfl
  refine ⟨_, PSs.nox ((pss_cons (ps_if (pt_not (pt_val (pe_cal c_are_fractions gd (hr.mono (by first | decide | omega)) pass0 (pa_cons (pv 0) pa_nil))))
      (pss_one ps_never)
      pss_nil)
      (pss_cons (ps_if (pt_cmpR op_isN (pv 1) pe_non (nomark _))
      (pss_one (ps_set (i := 2) sc_total.nd rfl (by first | exact Or.inl rfl | exact Or.inr rfl) (pe_op op_timesA (pe_tup (pa_cons (pe_glob (v := v_ONE) rfl m_ONE r_ONE) pa_nil)) (pe_callB ((CallR.or call_len_seq call_len_str)) rfl B.b_len bt_len (pa_cons (pv 0) pa_nil)))))
      (pss_one (ps_if (PW.pt (pw_and (pt_val (pe_cal c_are_fractions gd (hr.mono (by first | decide | omega)) pass0 (pa_cons (pv 1) pa_nil))) (pw_and1 (pt_cmpR (op_eqA hu) (pe_callB ((CallR.or call_len_seq call_len_str)) rfl B.b_len bt_len (pa_cons (pv 1) pa_nil)) (pe_callB ((CallR.or call_len_seq call_len_str)) rfl B.b_len bt_len (pa_cons (pv 0) pa_nil)) (nomark _)))))
      (pss_one (ps_set (i := 2) sc_total.nd rfl (by first | exact Or.inl rfl | exact Or.inr rfl) (pv 1)))
      (pss_one ps_never))))
      (pss_cons (ps_asg (pe_tup (pa_cons pe_int (pa_cons pe_int pa_nil))) (pg_tup rfl (pgs_cons (pg_name (i := 3) sc_total.nd rfl (by first | exact Or.inl rfl | exact Or.inr rfl)) (pgs_cons (pg_name (i := 4) sc_total.nd rfl (by first | exact Or.inl rfl | exact Or.inr rfl)) pgs_nil))))
      (pss_cons (ps_for PassesOwn.never rfl (RZ.pi_zipA rfl B.b_zip (pa_cons (pv 0) (pa_cons (pv 2) pa_nil))) (pg_tup rfl (pgs_cons (pg_tup rfl (pgs_cons (pg_name (i := 5) sc_total.nd rfl (by first | exact Or.inl rfl | exact Or.inr rfl)) (pgs_cons (pg_name (i := 6) sc_total.nd rfl (by first | exact Or.inl rfl | exact Or.inr rfl)) pgs_nil))) (pgs_cons (pg_tup rfl (pgs_cons (pg_name (i := 7) sc_total.nd rfl (by first | exact Or.inl rfl | exact Or.inr rfl)) (pgs_cons (pg_name (i := 8) sc_total.nd rfl (by first | exact Or.inl rfl | exact Or.inr rfl)) pgs_nil))) pgs_nil)))
      (pss_one (ps_asg (pe_cal c_cut gd (hr.mono (by first | decide | omega)) pass0 (pa_cons (pe_op op_plus (pe_op op_timesA (pe_op op_timesA (pv 3) (pv 6)) (pv 8)) (pe_op op_timesA (pe_op op_timesA (pv 5) (pv 7)) (pv 4))) (pa_cons (pe_op op_timesA (pe_op op_timesA (pv 4) (pv 6)) (pv 8)) pa_nil))) (pg_tup rfl (pgs_cons (pg_name (i := 3) sc_total.nd rfl (by first | exact Or.inl rfl | exact Or.inr rfl)) (pgs_cons (pg_name (i := 4) sc_total.nd rfl (by first | exact Or.inl rfl | exact Or.inr rfl)) pgs_nil))))))
      (pss_one (ps_ret (pe_tup (pa_cons (pv 3) (pa_cons (pv 4) pa_nil)))))))))), fin_D le kd hq ?_⟩
  refine xs_seq (xs_if (et_not (et_B (ev_call (Z := fun _ _ => False) Flies.none (fun _ => .nil) (ea_cons (ev_var rfl (ea_nil ?_)))))))
  refine ⟨ps.map Prod.fst, by rw [← hA]; rfl, by rw [List.length_map]; omega, true, rfl, fun h => (nomatch h), fun _ => ?_⟩
  refine xs_next ?_
  refine xs_mid (fun ρ => ρ = [.dat (frA ps), .dat d2, .dat (frB ps), .un, .un, .un, .un, .un, .un]) (xs_if (et_test (ev_op ?_))) fun ρ e => ?_
  · rcases h2 with ⟨rfl, h1⟩ | rfl
    · repeat walk_at "ev"
      refine rd_isN (b := true) (fun G v h => isN_non h) ?_
      refine ⟨true, rfl, fun _ => ?_, fun h => (nomatch h)⟩
      refine xs_set (ev_op (ev_tup (ea_cons (ev_c d_ONE (ea_nil ⟨by decide, ?_⟩)))))
      repeat walk_at "ev"
      rw [List.length_map]
      refine rd_k (r := rTimesA) rfl (mul_tup (by simp) hlen (by simp) ?_)
      rw [rep_flat1, ones_frB h1]
      rfl
    · repeat walk_at "ev"
      refine rd_isN (b := false) (fun G v h => isN_tup h) ?_
      refine ⟨false, rfl, fun h => (nomatch h), fun _ => ?_⟩
      refine xs_if ?_
      refine et_and (et_B (ev_call (Z := fun _ _ => False) Flies.none (fun _ => .nil) (ea_cons (ev_var rfl (ea_nil ?_)))))
      refine ⟨ps.map Prod.snd, by rw [← hB]; rfl, by rw [List.length_map]; omega, true, rfl, fun _ => ?_, fun h => (nomatch h)⟩
      repeat walk_at "ev"
      rw [List.length_map, List.length_map]
      refine rd_k (r := rEqA) rfl (rd_or1 (rd_eq rfl rfl (by rfl) (by rfl) ?_))
      have e0 : PyData.eqv (.int (ps.length : Int)) (.int (ps.length : Int)) = true := by
        show ((ps.length : Int) == (ps.length : Int)) = true
        exact beq_self_eq_true _
      rw [e0]
      refine ⟨true, rfl, fun _ => ?_, fun h => (nomatch h)⟩
      exact xs_set (ev_var rfl rfl)
  subst e
  refine xs_seq (xs_asg (is := [3, 4]) ?_)
  repeat walk_at "ev"
  refine eg_tup rfl (egs_cons (is := [3]) (js := [4]) (eg_name (egs_cons (is := [4]) (js := []) (eg_name (egs_nil ?_)))))
  refine xs_seq ?_
  refine xs_for (is := [5, 6, 7, 8]) (fun _ i ρ => ∃ u1 u2 u3 u4 : Slot, ρ = [.dat (frA ps), .dat d2, .dat (frB ps), .dat (.int (sumP (ps.take i)).num), .dat (.int ((sumP (ps.take i)).den : Int)), u1, u2, u3, u4]) (ei_zip ?_)
  repeat walk_at "ev"
  refine ⟨_, _, .inr rfl, ?_⟩
  rw [zips_fr]
  refine ⟨⟨.un, .un, .un, .un, rfl⟩, fun i d ρ hd hI => ?_, fun ρ hI => ?_⟩
  · obtain ⟨u1, u2, u3, u4, rfl⟩ := hI
    rw [List.getElem?_map] at hd
    obtain ⟨p, hp, rfl⟩ := Option.map_eq_some_iff.mp hd
    have hm : p ∈ ps := List.mem_of_getElem? hp
    obtain ⟨⟨a1, a2⟩, b1, b2⟩ := hS p hm
    have cb : 2 * c ≤ 8900 := by
      have : 2 * c + 1 ≤ (2 * c + 1) * (ps.length + 2) := Nat.le_mul_of_pos_right _ (by omega)
      omega
    obtain ⟨t1, t2⟩ := sm_take hS hc c1 i
    obtain ⟨n1, n2⟩ := sm_take hS hc c1 (i + 1)
    have a2' : (p.1.den : Int).natAbs < 2 ^ c := by rw [Int.natAbs_natCast]; exact a2
    have b2' : (p.2.den : Int).natAbs < 2 ^ c := by rw [Int.natAbs_natCast]; exact b2
    have t2' : ((sumP (ps.take i)).den : Int).natAbs < 2 ^ 8900 := by rw [Int.natAbs_natCast]; exact t2
    refine eg_tup rfl (egs_cons (is := [5, 6]) (js := [7, 8]) ?_)
    refine eg_tup rfl (egs_cons (is := [5]) (js := [6]) (eg_name (egs_cons (is := [6]) (js := []) (eg_name (egs_nil ?_)))))
    refine egs_cons (is := [7, 8]) (js := []) ?_
    refine eg_tup rfl (egs_cons (is := [7]) (js := [8]) (eg_name (egs_cons (is := [8]) (js := []) (eg_name (egs_nil (egs_nil ?_))))))
    refine xs_asg (is := [3, 4]) (ev_call (Z := fun _ _ => False) Flies.none (fun _ => .nil) ?_)
    repeat walk_at "ev"
    refine rd_k (r := rTimesA) rfl (DL.mul_int (mulW t1 a2' (by omega)) ?_)
    repeat walk_at "ev"
    refine rd_k (r := rTimesA) rfl (DL.mul_int (mulW (nbX t1 a2') b2' (by omega)) ?_)
    repeat walk_at "ev"
    refine rd_k (r := rTimesA) rfl (DL.mul_int (mulW a1 b1 (by omega)) ?_)
    repeat walk_at "ev"
    refine rd_k (r := rTimesA) rfl (DL.mul_int (mulW (nbX a1 b1) t2' (by omega)) ?_)
    repeat walk_at "ev"
    refine rd_k (r := rTimesA) rfl (DL.mul_int (mulW t2' a2' (by omega)) ?_)
    repeat walk_at "ev"
    refine rd_k (r := rTimesA) rfl (DL.mul_int (mulW (nbX t2' a2') b2' (by omega)) ?_)
    repeat walk_at "ev"
    have pos : (0 : Int) < ((sumP (ps.take i)).den : Int) * (p.1.den : Int) * (p.2.den : Int) := by
      have := (sumP (ps.take i)).den_pos
      have := p.1.den_pos
      have := p.2.den_pos
      exact Int.mul_pos (Int.mul_pos (by omega) (by omega)) (by omega)
    have eN : (((sumP (ps.take i)).den : Int) * (p.1.den : Int) * (p.2.den : Int)).toNat = (sumP (ps.take i)).den * p.1.den * p.2.den := by
      rw [← Int.natCast_mul, ← Int.natCast_mul, Int.toNat_natCast]
    have hi : i < ps.length := (List.getElem?_eq_some_iff.mp hp).1
    have tD : ((sumP (ps.take i)).den : Int).natAbs < 2 ^ ((2 * c + 1) * i + 1) := by
      rw [Int.natAbs_natCast]
      have := (sum_small (c := c) (ps := ps.take i) fun q hq => hS q (List.mem_of_mem_take hq)).2
      rw [List.length_take, Nat.min_eq_left (by omega)] at this
      exact this
    have eb : (2 * c + 1) * i + 1 + c + c ≤ 8950 := by
      have : (2 * c + 1) * (i + 1) ≤ (2 * c + 1) * (ps.length + 2) := Nat.mul_le_mul_left _ (by omega)
      rw [Nat.mul_add] at this
      omega
    refine ⟨_, _, rfl, pos, nbM (nbX (nbX tD a2') b2') eb, ?_⟩
    rw [eN, ← step_mk]
    have e2 : sumP (ps.take i) + p.1 * p.2 = sumP (ps.take (i + 1)) := (sumP_take hp).symm
    rw [e2]
    refine eg_tup rfl (egs_cons (is := [3]) (js := [4]) (eg_name (egs_cons (is := [4]) (js := []) (eg_name (egs_nil ?_)))))
    exact ⟨_, _, _, _, rfl⟩
  · obtain ⟨u1, u2, u3, u4, rfl⟩ := hI
    rw [List.length_map, List.take_length]
    refine xs_ret ?_
    repeat walk_at "ev"
    exact hf
end
end K02
namespace K02
variable [TabT]
abbrev s_l_drawn_fraction : Stmt := topS 22
abbrev n_l_drawn_fraction : List Str := ["_law_pot_here", "_law_top"]
abbrev p_l_drawn_fraction : List Str := ["_law_pot_here"]
theorem sc_l_drawn_fraction : FnScope n_l_drawn_fraction p_l_drawn_fraction (defScope s_l_drawn_fraction) := ⟨rfl, rfl, rfl, by decide +kernel, rfl, by decide +kernel, by decide +kernel⟩

section
variable {P : Program} {w : World} {K : PySem.W.Frag} {mg : Str → Option Value} {base : Heap}
def fp_drawn : FP := fun k ds R _ => ds = [] ∧ k + 10 < 2 ^ 40 ∧ ∀ q, Sm 17 q → R (frq q) (k + 5)
theorem ok_drawn {f : Addr} {fd : FuncData} (B : Bt mg) (c_l_take : Cal P w K mg base CX0 1 "_law_take" p_l_take [] (spP K fp_take)) (c_l_of : Cal P w K mg base CX0 2 "_law_of" p_l_of [] (spP K fp_of)) (c_l_fraction : Cal P w K mg base CX0 2 "_law_fraction" p_l_fraction [] (spD K fs_lfraction)) (F : Fun K "_law_drawn_fraction" "_law_drawn_fraction" s_l_drawn_fraction f fd) : FnG P w K mg base CX0 3 f fd p_l_drawn_fraction (spP K fp_drawn) := by
  refine okG F sc_l_drawn_fraction (spP_len fun k ds R Z ⟨e, _⟩ => by rw [e]; rfl) (fun cdv A outer s H vs Q E gd hr ⟨a, ws, G, ds, k, R, Z, ev, le, ga, pa, kd, hf, hq, hz⟩ => ?_)
  obtain ⟨rfl, k1, hf⟩ := hf
  subst ev
  refine ⟨_, PSs.nox ((pss_cons (ps_set (i := 1) sc_l_drawn_fraction.nd rfl (by first | exact Or.inl rfl | exact Or.inr rfl) (pe_op op_timesA (pe_cal c_l_take gd (hr.mono (by first | decide | omega)) pass0 (pa_cons (pv 0) (pa_cons (pe_cal c_l_of gd (hr.mono (by first | decide | omega)) pass0 (pa_cons (pv 0) (pa_cons (pe_lst (pa_cons pe_int (pa_cons pe_int (pa_cons pe_int (pa_cons pe_int (pa_cons (pe_op op_powG pe_int pe_int) pa_nil)))))) pa_nil))) pa_nil))) (pe_cal c_l_of gd (hr.mono (by first | decide | omega)) pass0 (pa_cons (pv 0) (pa_cons (pe_lst (pa_cons pe_int (pa_cons pe_int (pa_cons (pe_un un_neg pe_int) pa_nil)))) pa_nil)))))
      (pss_one (ps_ret (pe_cal c_l_fraction gd (hr.mono (by first | decide | omega)) pass0 (pa_cons (pv 1) (pa_cons (pe_op op_plus pe_int (pe_cal c_l_take gd (hr.mono (by first | decide | omega)) pass0 (pa_cons (pv 0) (pa_cons (pe_cal c_l_of gd (hr.mono (by first | decide | omega)) pass0 (pa_cons (pv 0) (pa_cons (pe_lst (pa_cons pe_int (pa_cons pe_int (pa_cons pe_int (pa_cons pe_int (pa_cons pe_int pa_nil)))))) pa_nil))) pa_nil)))) pa_nil))))))), fin_P le ga pa kd hq ?_⟩
  refine xs_mid (fun ρ => ∃ t : Int, t.natAbs < 2 ^ 17 ∧ ρ = [.pot a (k + 3), .dat (.int t)]) ?_ fun ρ ⟨t, ht, e⟩ => ?_
  · refine xs_set (ev_op (ev_callP (Z := fun _ _ => False) Flies.none (fun _ => .nil) (by exact ⟨_, _, rfl⟩) ?_))
    refine ea_cons (ev_callP (Z := fun _ _ => False) Flies.none (fun _ => .nil) (by exact ⟨_, _, rfl⟩) ?_)
    repeat walk_at "ev"
    refine rd_I (powG (a := 10) (by decide) (by decide) (by decide)) ?_
    repeat walk_at "ev"
    refine ⟨_, _, rfl, _, rfl, by simp, by simp, by omega, fun x hx => ?_⟩
    have hx' : ∃ n : Int, x = .int n ∧ 0 < n ∧ n ≤ 100000 := by
      simp only [List.mem_cons, List.not_mem_nil, or_false] at hx
      rcases hx with rfl | rfl | rfl | rfl | rfl
      · exact ⟨_, rfl, by decide, by decide⟩
      · exact ⟨_, rfl, by decide, by decide⟩
      · exact ⟨_, rfl, by decide, by decide⟩
      · exact ⟨_, rfl, by decide, by decide⟩
      · exact ⟨_, rfl, by decide, by decide⟩
    obtain ⟨n, rfl, n0, n1⟩ := hx'
    repeat walk_at "ev"
    refine ⟨_, _, rfl, _, rfl, n0, by omega, by omega, fun d d0 d1 => ?_⟩
    refine ev_callP (Z := fun _ _ => False) Flies.none (fun _ => .nil) (by exact ⟨_, _, rfl⟩) ?_
    repeat walk_at "ev"
    refine ⟨_, _, rfl, _, rfl, by simp, by simp, by omega, fun x hx => ?_⟩
    have hx' : ∃ s : Int, x = .int s ∧ (s = 1 ∨ s = -1) := by
      simp only [List.mem_cons, List.not_mem_nil, or_false] at hx
      rcases hx with rfl | rfl | rfl
      · exact ⟨_, rfl, .inl rfl⟩
      · exact ⟨_, rfl, .inl rfl⟩
      · exact ⟨_, rfl, .inr rfl⟩
    obtain ⟨s, rfl, hs⟩ := hx'
    refine rd_k (r := rTimesA) rfl (DL.mul_int (mulW (a := 17) (b := 2) (natAbs_lt (by omega) (by omega)) (by rcases hs with rfl | rfl <;> decide) (by decide)) ?_)
    refine ⟨d * s, ?_, rfl⟩
    rcases hs with rfl | rfl
    · exact natAbs_lt (by omega) (by omega)
    · exact natAbs_lt (by omega) (by omega)
  subst e
  refine xs_ret (ev_call (Z := fun _ _ => False) Flies.none (fun _ => .nil) ?_)
  repeat walk_at "ev"
  refine ev_callP (Z := fun _ _ => False) Flies.none (fun _ => .nil) (by exact ⟨_, _, rfl⟩) ?_
  refine ea_cons (ev_callP (Z := fun _ _ => False) Flies.none (fun _ => .nil) (by exact ⟨_, _, rfl⟩) ?_)
  repeat walk_at "ev"
  refine ⟨_, _, rfl, _, rfl, by simp, by simp, by omega, fun x hx => ?_⟩
  have hx' : ∃ n : Int, x = .int n ∧ 0 < n ∧ n ≤ 1000 := by
    simp only [List.mem_cons, List.not_mem_nil, or_false] at hx
    rcases hx with rfl | rfl | rfl | rfl | rfl
    · exact ⟨_, rfl, by decide, by decide⟩
    · exact ⟨_, rfl, by decide, by decide⟩
    · exact ⟨_, rfl, by decide, by decide⟩
    · exact ⟨_, rfl, by decide, by decide⟩
    · exact ⟨_, rfl, by decide, by decide⟩
  obtain ⟨n, rfl, n0, n1⟩ := hx'
  repeat walk_at "ev"
  refine ⟨_, _, rfl, _, rfl, n0, by omega, by omega, fun d d0 d1 => ?_⟩
  repeat walk_at "ev"
  have hl : (1 + d).toNat ≠ 0 := by omega
  have sm := mk_small (n := t) (d := (1 + d).toNat) hl ht
  refine ⟨_, _, rfl, by omega, nbM (natAbs_lt (a := 17) (by omega) (by omega)) (by decide), _, rfl, hf _ ⟨sm.1, Nat.lt_of_le_of_lt sm.2 (by omega)⟩⟩
end
end K02
namespace K02
variable [TabT]

abbrev s_l_one_right : Stmt := topS 24
abbrev n_l_one_right : List Str := ["_law_pot_here", "_law_some_here", "_law_weights", "_law_told", "_law_ones_here", "_law_order", "_law_mixed", "_law_its", "_law_twice", "_law_parts", "_law_at", "_law_weight", "_law_one"]
abbrev p_l_one_right : List Str := ["_law_pot_here", "_law_some_here", "_law_weights"]
theorem sc_l_one_right : FnScope n_l_one_right p_l_one_right (defScope s_l_one_right) := ⟨rfl, rfl, rfl, by decide +kernel, rfl, by decide +kernel, by decide +kernel⟩

section
variable {P : Program} {w : World} {K : PySem.W.Frag} {mg : Str → Option Value} {base : Heap}
theorem smL_of {ps : List Pq} {c : Nat} (c1 : 1 ≤ c) (h : ∀ p ∈ ps, SmP c p) (hl : (2 * c + 1) * (ps.length + 2) ≤ 8900) (hn : ps.length ≤ 1000) : SmL ps := ⟨c, c1, h, hl, hn⟩
theorem frA_map (ps : List Pq) (f : Pq → Pq) (h : ∀ p, (f p).1 = p.1) : frA (ps.map f) = frA ps := by
  unfold frA
  rw [List.map_map]
  congr 1
  refine List.map_congr_left fun p _ => ?_
  show frq (f p).1 = frq p.1
  rw [h]
def fp_one : FP := fun k ds R _ => ∃ ps, ds = [frA ps, frB ps] ∧ (∀ p ∈ ps, SmP 17 p) ∧ ps.length ≤ 25 ∧ k + 100 < 2 ^ 40 ∧ R (.bl true) (k + ps.length)
set_option maxRecDepth 20000 in
theorem ok_one {f : Addr} {fd : FuncData} (B : Bt mg) (c_total_2 : Cal P w K mg base CX0 4 "total" p_total [] (spD K fs_total)) (c_total_1 : Cal P w K mg base CX0 4 "total" p_total [.non] (spD K fs_total)) (c_l_ones : Cal P w K mg base CX0 1 "_law_ones" p_l_ones [] (spD K fs_ones)) (c_l_sum : Cal P w K mg base CX0 3 "_law_sum" p_l_sum [] (spD K fs_lsum))
    (c_l_some : Cal P w K mg base CX0 2 "_law_some" p_l_some [] (spP K fp_some)) (c_l_gcd : Cal P w K mg base CX0 1 "_law_gcd" p_l_gcd [] (spD K fs_gcd)) (c_fraction_2 : Cal P w K mg base CX0 2 "fraction" p_fraction [] (spD K fs_pfraction)) (F : Fun K "_law_one_right" "_law_one_right" s_l_one_right f fd) : FnG P w K mg base CX0 5 f fd p_l_one_right (spP K fp_one) := by
  refine okG F sc_l_one_right (spP_len fun k ds R Z ⟨ps, e, _⟩ => by rw [e]; rfl) (fun cdv A outer s H vs Q E gd hr ⟨a, ws, G, ds, k, R, Z, ev, le, ga, pa, kd, hf, hq, hz⟩ => ?_)
  have hu : (cxOf CX0 P w K mg base n_l_one_right "_law_one_right" (defScope s_l_one_right) f cdv A outer s H E).nox.A.units + 64 < cLine := hr.units
  obtain ⟨ps, rfl, hS, hn, k1, hf⟩ := hf
  subst ev
  refine ⟨_, PSs.nox ((pss_cons (ps_par (i := 3) (j := 4) rfl sc_l_one_right.nd rfl rfl (by decide) rfl rfl (pa_cons (pe_cal c_total_2 gd (hr.mono (by first | decide | omega)) pass0 (pa_cons (pv 1) (pa_cons (pv 2) pa_nil))) (pa_cons (pe_cal c_l_ones gd (hr.mono (by first | decide | omega)) pass0 (pa_cons (pe_callB ((CallR.or call_len_seq call_len_str)) rfl B.b_len bt_len (pa_cons (pv 1) pa_nil)) pa_nil)) pa_nil)) rfl)
      (pss_cons (ps_if (PW.pt (pw_or (pt_cmpR (op_neA hu) (pe_callB (call_repr gd hu) rfl B.b_repr bt_repr (pa_cons (pv 3) pa_nil)) (pe_callB (call_repr gd hu) rfl B.b_repr bt_repr (pa_cons (pe_cal c_l_sum gd (hr.mono (by first | decide | omega)) pass0 (pa_cons (pv 1) (pa_cons (pv 2) pa_nil))) pa_nil)) (nomark _)) (pw_or1 (pt_cmpR (op_neA hu) (pe_callB (call_repr gd hu) rfl B.b_repr bt_repr (pa_cons (pe_cal c_total_1 gd (hr.mono (by first | decide | omega)) pass0 (pa_cons (pv 1) pa_nil)) pa_nil)) (pe_callB (call_repr gd hu) rfl B.b_repr bt_repr (pa_cons (pe_cal c_l_sum gd (hr.mono (by first | decide | omega)) pass0 (pa_cons (pv 1) (pa_cons (pv 4) pa_nil))) pa_nil)) (nomark _)))))
      (pss_one (ps_ret pe_bl))
      pss_nil)
      (pss_cons (ps_set (i := 5) sc_l_one_right.nd rfl (by first | exact Or.inl rfl | exact Or.inr rfl) (pe_cal c_l_some gd (hr.mono (by first | decide | omega)) pass0 (pa_cons (pv 0) (pa_cons (pe_listRg rfl rfl B.b_list (prg_1 rfl B.b_range (pe_callB ((CallR.or call_len_seq call_len_str)) rfl B.b_len bt_len (pa_cons (pv 1) pa_nil)))) (pa_cons (pe_callB ((CallR.or call_len_seq call_len_str)) rfl B.b_len bt_len (pa_cons (pv 1) pa_nil)) pa_nil)))))
      (pss_cons (ps_par (i := 6) (j := 7) rfl sc_l_one_right.nd rfl rfl (by decide) rfl rfl (pa_cons (pe_lc (own := [("_law_at", 10)]) (g := (gName 10)) (tt := tYes) rfl sc_l_one_right.nd (pi_list (pv 5)) (blkOk_by (N := n_l_one_right) (sc := defScope s_l_one_right) (by decide +kernel)) (fun _ _ _ _ _ => (pg_name (i := 10) sc_l_one_right.nd rfl (by first | exact Or.inl rfl | exact Or.inr rfl))) (fun _ _ _ _ _ => pts_nil) (fun _ _ _ _ _ => (pe_ix (kIx (K := K) rfl) (pv 1) (pv 10) (fun _ _ => rfl)))) (pa_cons (pe_lc (own := [("_law_at", 10)]) (g := (gName 10)) (tt := tYes) rfl sc_l_one_right.nd (pi_list (pv 5)) (blkOk_by (N := n_l_one_right) (sc := defScope s_l_one_right) (by decide +kernel)) (fun _ _ _ _ _ => (pg_name (i := 10) sc_l_one_right.nd rfl (by first | exact Or.inl rfl | exact Or.inr rfl))) (fun _ _ _ _ _ => pts_nil) (fun _ _ _ _ _ => (pe_ix (kIx (K := K) rfl) (pv 2) (pv 10) (fun _ _ => rfl)))) pa_nil)) rfl)
      (pss_cons (ps_if (PW.pt (pw_or (pt_cmpR (op_neA hu) (pe_cal c_total_2 gd (hr.mono (by first | decide | omega)) pass0 (pa_cons (pe_callTy (call_tuple_of) rfl B.b_tuple bt_tuple (pa_cons (pv 6) pa_nil)) (pa_cons (pe_callTy (call_tuple_of) rfl B.b_tuple bt_tuple (pa_cons (pv 7) pa_nil)) pa_nil))) (pv 3) (nomark _)) (pw_or1 (pt_cmpR (op_neA hu) (pe_cal c_total_2 gd (hr.mono (by first | decide | omega)) pass0 (pa_cons (pv 1) (pa_cons (pv 4) pa_nil))) (pe_cal c_total_1 gd (hr.mono (by first | decide | omega)) pass0 (pa_cons (pv 1) pa_nil)) (nomark _)))))
      (pss_one (ps_ret pe_bl))
      pss_nil)
      (pss_cons (ps_set (i := 8) sc_l_one_right.nd rfl (by first | exact Or.inl rfl | exact Or.inr rfl) (pe_callTy (call_tuple_of) rfl B.b_tuple bt_tuple (pa_cons (pe_lc (own := [("_law_weight", 11)]) (g := (gName 11)) (tt := tYes) rfl sc_l_one_right.nd (pi_tup (pv 2)) (blkOk_by (N := n_l_one_right) (sc := defScope s_l_one_right) (by decide +kernel)) (fun _ _ _ _ _ => (pg_name (i := 11) sc_l_one_right.nd rfl (by first | exact Or.inl rfl | exact Or.inr rfl))) (fun _ _ _ _ _ => pts_nil) (fun _ _ _ _ _ => (pe_tup (pa_cons (pe_op op_fdivG (pe_op (kTimes (K := K) rfl) pe_int (pe_ix (kIx (K := K) rfl) (pv 11) pe_int (fun _ _ => rfl))) (pe_cal c_l_gcd gd (hr.mono (by first | decide | omega)) pass0 (pa_cons (pe_lst (pa_cons pe_int (pa_cons (pe_ix (kIx (K := K) rfl) (pv 11) pe_int (fun _ _ => rfl)) pa_nil))) pa_nil))) (pa_cons (pe_op op_fdivG (pe_ix (kIx (K := K) rfl) (pv 11) pe_int (fun _ _ => rfl)) (pe_cal c_l_gcd gd (hr.mono (by first | decide | omega)) pass0 (pa_cons (pe_lst (pa_cons pe_int (pa_cons (pe_ix (kIx (K := K) rfl) (pv 11) pe_int (fun _ _ => rfl)) pa_nil))) pa_nil))) pa_nil))))) pa_nil)))
      (pss_cons (ps_if (PW.pt (pw_or (pt_cmpR (op_neA hu) (pe_cal c_total_2 gd (hr.mono (by first | decide | omega)) pass0 (pa_cons (pv 1) (pa_cons (pv 8) pa_nil))) (pe_cal c_total_1 gd (hr.mono (by first | decide | omega)) pass0 (pa_cons (pe_tup (pa_cons (pv 3) (pa_cons (pv 3) pa_nil))) pa_nil)) (nomark _)) (pw_or1 (pt_cmpR (op_neA hu) (pe_cal c_total_2 gd (hr.mono (by first | decide | omega)) pass0 (pa_cons (pv 2) (pa_cons (pv 1) pa_nil))) (pv 3) (nomark _)))))
      (pss_one (ps_ret pe_bl))
      pss_nil)
      (pss_cons (ps_set (i := 9) sc_l_one_right.nd rfl (by first | exact Or.inl rfl | exact Or.inr rfl) (pe_callTy (call_tuple_of) rfl B.b_tuple bt_tuple (pa_cons (pe_lc (own := [("_law_one", 12), ("_law_its", 7)]) (g := (gTup K 2 (gCons (gName 12) (gCons (gName 7) gNil)))) (tt := tYes) rfl sc_l_one_right.nd (RZ.pi_zipA rfl B.b_zip (pa_cons (pv 1) (pa_cons (pv 2) pa_nil))) (blkOk_by (N := n_l_one_right) (sc := defScope s_l_one_right) (by decide +kernel)) (fun _ _ _ _ _ => (pg_tup rfl (pgs_cons (pg_name (i := 12) sc_l_one_right.nd rfl (by first | exact Or.inl rfl | exact Or.inr rfl)) (pgs_cons (pg_name (i := 7) sc_l_one_right.nd rfl (by first | exact Or.inl rfl | exact Or.inr rfl)) pgs_nil)))) (fun _ _ _ _ _ => pts_nil) (fun _ _ _ _ _ => (pe_cal c_fraction_2 gd (hr.mono (by first | decide | omega)) pass0 (pa_cons (pe_op (kTimes (K := K) rfl) (pe_ix (kIx (K := K) rfl) (pv 12) pe_int (fun _ _ => rfl)) (pe_ix (kIx (K := K) rfl) (pv 7) pe_int (fun _ _ => rfl))) (pa_cons (pe_op (kTimes (K := K) rfl) (pe_ix (kIx (K := K) rfl) (pv 12) pe_int (fun _ _ => rfl)) (pe_ix (kIx (K := K) rfl) (pv 7) pe_int (fun _ _ => rfl))) pa_nil))))) pa_nil)))
      (pss_one (ps_ret (pe_and (pe_cmpR (op_eqA hu) (pe_cal c_total_1 gd (hr.mono (by first | decide | omega)) pass0 (pa_cons (pv 9) pa_nil)) (pv 3) (nomark _)) (pe_one (pe_cmpR (op_eqA hu) (pe_cal c_total_1 gd (hr.mono (by first | decide | omega)) pass0 (pa_cons (pe_op op_plus (pv 1) (pe_callTy (call_tuple_of) rfl B.b_tuple bt_tuple (pa_cons (pe_lc (own := [("_law_one", 12)]) (g := (gName 12)) (tt := tYes) rfl sc_l_one_right.nd (pi_tup (pv 1)) (blkOk_by (N := n_l_one_right) (sc := defScope s_l_one_right) (by decide +kernel)) (fun _ _ _ _ _ => (pg_name (i := 12) sc_l_one_right.nd rfl (by first | exact Or.inl rfl | exact Or.inr rfl))) (fun _ _ _ _ _ => pts_nil) (fun _ _ _ _ _ => (pe_tup (pa_cons (pe_un un_neg (pe_ix (kIx (K := K) rfl) (pv 12) pe_int (fun _ _ => rfl))) (pa_cons (pe_ix (kIx (K := K) rfl) (pv 12) pe_int (fun _ _ => rfl)) pa_nil))))) pa_nil))) pa_nil)) (pe_tup (pa_cons pe_int (pa_cons pe_int pa_nil))) (nomark _))))))))))))))), fin_P le ga pa kd hq ?_⟩
  -- the sums that come up
  obtain ⟨q, eq⟩ : ∃ q, q = sumP ps := ⟨_, rfl⟩
  obtain ⟨O, eO⟩ : ∃ O, O = D.tup (List.replicate ps.length (frq 1)) := ⟨_, rfl⟩
  have L0 : SmL ps := smL_of (c := 17) (by decide) hS (by omega) (by omega)
  let f1 : Pq → Pq := fun p => (p.1, 1)
  have A1 : frA (ps.map f1) = frA ps := frA_map ps f1 fun _ => rfl
  have B1 : frB (ps.map f1) = O := by
    rw [eO, ← ones_frB (ps := ps.map f1) fun p hp => by
      obtain ⟨x, _, rfl⟩ := List.mem_map.mp hp
      rfl]
    rw [List.length_map]
  have one1 : ∀ p ∈ ps.map f1, p.2 = 1 := fun p hp => by
    obtain ⟨x, _, rfl⟩ := List.mem_map.mp hp
    rfl
  have S1 : ∀ p ∈ ps.map f1, SmP 17 p := fun p hp => by
    obtain ⟨x, hx, rfl⟩ := List.mem_map.mp hp
    exact ⟨(hS x hx).1, sm_one⟩
  have L1 : SmL (ps.map f1) := smL_of (c := 17) (by decide) S1 (by rw [List.length_map]; omega) (by rw [List.length_map]; omega)
  have smq : Sm 1919 q := by
    rw [eq]
    exact sum_Sm hS (by omega) (by decide)
  have sm1 : Sm 1919 (sumP (ps.map f1)) := sum_Sm S1 (by rw [List.length_map]; omega) (by decide)
  have hl : (ps.map fun p => frq p.1).length = ps.length := List.length_map _
  refine xs_mid (fun ρ => ρ = [.pot a k, .dat (frA ps), .dat (frB ps), .dat (frq q), .dat O, .un, .un, .un, .un, .un, .un, .un, .un]) ?_ fun ρ e => ?_
  · refine xs_parDD (ev_call (Z := fun _ _ => False) Flies.none (fun _ => .nil) ?_)
    repeat walk_at "ar"
    refine ⟨ps, _, rfl, .inr rfl, L0, ?_⟩
    refine ev_call (Z := fun _ _ => False) Flies.none (fun _ => .nil) ?_
    repeat walk_at "ar"
    refine ⟨ps.length, by rw [hl]; rfl, by omega, ?_⟩
    rw [← eq, ← eO]
    rfl
  subst e
  refine xs_mid (fun ρ => ρ = [.pot a k, .dat (frA ps), .dat (frB ps), .dat (frq q), .dat O, .un, .un, .un, .un, .un, .un, .un, .un]) ?_ fun ρ e => ?_
  · repeat walk_at "ar"
    refine repr_frq rfl smq ?_
    repeat walk_at "ar"
    refine ev_call (Z := fun _ _ => False) Flies.none (fun _ => .nil) ?_
    repeat walk_at "ar"
    refine ⟨ps, rfl, L0, ?_⟩
    repeat walk_at "ar"
    refine repr_frq rfl (eq ▸ smq) ?_
    refine ne_strS rfl (by rw [eq]) ?_
    refine ⟨false, rfl, fun h => (nomatch h), fun _ => ?_⟩
    repeat walk_at "ar"
    refine ev_call (Z := fun _ _ => False) Flies.none (fun _ => .cons .non .nil) ?_
    repeat walk_at "ar"
    refine ⟨ps.map f1, .non, by rw [A1]; rfl, .inl ⟨rfl, one1⟩, L1, ?_⟩
    repeat walk_at "ar"
    refine repr_frq rfl sm1 ?_
    repeat walk_at "ar"
    refine ev_call (Z := fun _ _ => False) Flies.none (fun _ => .nil) ?_
    repeat walk_at "ar"
    refine ⟨ps.map f1, by rw [A1, B1]; rfl, L1, ?_⟩
    repeat walk_at "ar"
    refine repr_frq rfl sm1 ?_
    refine ne_strS rfl rfl ?_
    refine ⟨false, rfl, fun h => (nomatch h), fun _ => ?_⟩
    exact xs_next rfl
  subst e
  -- another sequence
  refine xs_mid (fun ρ => ∃ os : List Nat, os.Perm (List.range ps.length) ∧ ρ = [.pot a (k + ps.length), .dat (frA ps), .dat (frB ps), .dat (frq q), .dat O, .dat (.lst (os.map fun i : Nat => D.int (0 + (i : Int)))), .un, .un, .un, .un, .un, .un, .un]) ?_ fun ρ ⟨os, hos, e⟩ => ?_
  · refine xs_set (ev_callP (Z := fun _ _ => False) Flies.none (fun _ => .nil) (by exact ⟨_, _, rfl⟩) ?_)
    refine ea_cons (EvN.ev (en_listRg ?_))
    repeat walk_at "ar"
    refine ⟨ps.length, by rw [hl], by omega, ?_⟩
    repeat walk_at "ar"
    refine ⟨_, _, rfl, intsD 0 ps.length, ps.length, .inl (by rw [hl]; rfl), by rw [ints_len]; exact Nat.le_refl _, by rw [ints_len]; omega, by omega, fun ys zs hp hy => ?_⟩
    have hz0 : zs = [] := by
      have := hp.length_eq
      rw [List.length_append, ints_len, hy] at this
      exact List.length_eq_zero_iff.mp (by omega)
    rw [hz0, List.append_nil] at hp
    obtain ⟨os, ho, rfl⟩ := perm_map_inv hp (List.range ps.length) rfl
    exact ⟨os, ho, rfl⟩
  subst e
  have hol : os.length = ps.length := by rw [hos.length_eq, List.length_range]
  obtain ⟨qs, eqs⟩ : ∃ qs : List Pq, qs = os.map fun i => ps.getD i (0, 0) := ⟨_, rfl⟩
  have hqp : qs.Perm ps := by
    rw [eqs]
    refine (hos.map _).trans (List.Perm.of_eq ?_)
    refine List.ext_getElem (by simp) fun i h1 h2 => ?_
    simp [List.getD_eq_getElem?_getD, List.getElem?_eq_getElem h2]
  have hql : qs.length = ps.length := hqp.length_eq
  have hqi : ∀ (i o : Nat), os[i]? = some o → o < ps.length ∧ ∃ p, ps[o]? = some p ∧ qs[i]? = some p := fun i o h => by
    have ho : o < ps.length := List.mem_range.mp (hos.mem_iff.mp (List.mem_of_getElem? h))
    refine ⟨ho, ps[o], List.getElem?_eq_getElem ho, ?_⟩
    rw [eqs, List.getElem?_map, h]
    simp [List.getD_eq_getElem?_getD, List.getElem?_eq_getElem ho]
  have L2 : SmL qs := smL_of (c := 17) (by decide) (fun p hp => hS p (hqp.mem_iff.mp hp)) (by omega) (by omega)
  have Q2 : sumP qs = q := by rw [eq]; exact sumP_perm hqp
  refine xs_mid (fun ρ => ρ = [.pot a (k + ps.length), .dat (frA ps), .dat (frB ps), .dat (frq q), .dat O, .dat (.lst (os.map fun i : Nat => D.int (0 + (i : Int)))), .dat (.lst (qs.map fun p => frq p.1)), .dat (.lst (qs.map fun p => frq p.2)), .un, .un, .un, .un, .un]) ?_ fun ρ e => ?_
  · refine xs_parDD (EvN.ev (en_lc (is := [10]) (fun _ i acc ρ => acc = (qs.take i).map (fun p => frq p.1) ∧ ρ = [.pot a (k + ps.length), .dat (frA ps), .dat (frB ps), .dat (frq q), .dat O, .dat (.lst (os.map fun i : Nat => D.int (0 + (i : Int)))), .un, .un, .un, .un, .un, .un, .un]) (by decide) (ei_list (ev_var rfl ?_))))
    refine ⟨_, rfl, by rw [List.length_map]; omega, ⟨rfl, rfl⟩, fun i d acc ρ hd hI => ?_, fun acc ρ hl2 hI => ?_⟩
    · obtain ⟨rfl, e⟩ := hI
      rw [List.getElem?_map] at hd
      obtain ⟨o, ho, rfl⟩ := Option.map_eq_some_iff.mp hd
      obtain ⟨o1, p, hp, hq1⟩ := hqi i o ho
      rw [e]
      refine eg_name (et_yes ⟨fun _ => ?_, fun h => nomatch h⟩)
      repeat walk_at "ar"
      refine ix_tupl ⟨o, by omega, by rw [List.getElem?_map, hp]; rfl⟩ ?_
      refine ⟨?_, rfl⟩
      rw [List.take_add_one, hq1, List.map_append]
      rfl
    · obtain ⟨rfl, e⟩ := hI
      rw [e]
      refine EvN.ev (en_lc (is := [10]) (fun _ i acc ρ => acc = (qs.take i).map (fun p => frq p.2) ∧ ρ = [.pot a (k + ps.length), .dat (frA ps), .dat (frB ps), .dat (frq q), .dat O, .dat (.lst (os.map fun i : Nat => D.int (0 + (i : Int)))), .un, .un, .un, .un, .un, .un, .un]) (by decide) (ei_list (ev_var rfl ?_)))
      refine ⟨_, rfl, by rw [List.length_map]; omega, ⟨rfl, rfl⟩, fun i d acc ρ hd hI => ?_, fun acc ρ hl2 hI => ?_⟩
      · obtain ⟨rfl, e⟩ := hI
        rw [List.getElem?_map] at hd
        obtain ⟨o, ho, rfl⟩ := Option.map_eq_some_iff.mp hd
        obtain ⟨o1, p, hp, hq1⟩ := hqi i o ho
        rw [e]
        refine eg_name (et_yes ⟨fun _ => ?_, fun h => nomatch h⟩)
        repeat walk_at "ar"
        refine ix_tupl ⟨o, by omega, by rw [List.getElem?_map, hp]; rfl⟩ ?_
        refine ⟨?_, rfl⟩
        rw [List.take_add_one, hq1, List.map_append]
        rfl
      · obtain ⟨rfl, e⟩ := hI
        rw [e, List.length_map, hol, ← hql, List.take_length]
        rfl
  subst e
  -- the same, turned about
  have E12 : frA qs = .tup (qs.map fun p => frq p.1) := rfl
  have total2 : ∀ (x y : D) (rs : List Pq) {P' : D → Prop} {Zr : Addr → D → Prop}, x = frA rs → y = frB rs → SmL rs → P' (frq (sumP rs)) → fs_total [x, y] P' Zr := fun x y rs P' Zr e1 e2 h p => ⟨rs, y, by rw [e1], .inr e2, h, p⟩
  have total1 : ∀ (x : D) (rs : List Pq) {P' : D → Prop} {Zr : Addr → D → Prop}, x = frA rs → (∀ p ∈ rs, p.2 = 1) → SmL rs → P' (frq (sumP rs)) → fs_total [x, .non] P' Zr := fun x rs P' Zr e1 e2 h p => ⟨rs, .non, by rw [e1], .inl ⟨rfl, e2⟩, h, p⟩
  refine xs_mid (fun ρ => ρ = [.pot a (k + ps.length), .dat (frA ps), .dat (frB ps), .dat (frq q), .dat O, .dat (.lst (os.map fun i : Nat => D.int (0 + (i : Int)))), .dat (.lst (qs.map fun p => frq p.1)), .dat (.lst (qs.map fun p => frq p.2)), .un, .un, .un, .un, .un]) ?_ fun ρ e => ?_
  · repeat walk_at "ar"
    refine ev_call (Z := fun _ _ => False) Flies.none (fun _ => .nil) ?_
    repeat walk_at "ar"
    refine rc_tupL ?_
    repeat walk_at "ar"
    refine rc_tupL ?_
    repeat walk_at "ar"
    refine total2 _ _ qs rfl rfl L2 ?_
    repeat walk_at "ar"
    refine ne_fr rfl Q2 ?_
    refine ⟨false, rfl, fun h => (nomatch h), fun _ => ?_⟩
    repeat walk_at "ar"
    refine ev_call (Z := fun _ _ => False) Flies.none (fun _ => .nil) ?_
    repeat walk_at "ar"
    refine total2 _ _ (ps.map f1) A1.symm B1.symm L1 ?_
    refine ev_call (Z := fun _ _ => False) Flies.none (fun _ => .cons .non .nil) ?_
    repeat walk_at "ar"
    refine total1 _ (ps.map f1) A1.symm one1 L1 ?_
    refine ne_fr rfl rfl ?_
    refine ⟨false, rfl, fun h => (nomatch h), fun _ => ?_⟩
    exact xs_next rfl
  subst e
  -- twice the weights
  let f2 : Pq → Pq := fun p => (p.1, 2 * p.2)
  have hps2 : ∀ i p, ps[i]? = some p → p ∈ ps := fun i p h => List.mem_of_getElem? h
  refine xs_mid (fun ρ => ρ = [.pot a (k + ps.length), .dat (frA ps), .dat (frB ps), .dat (frq q), .dat O, .dat (.lst (os.map fun i : Nat => D.int (0 + (i : Int)))), .dat (.lst (qs.map fun p => frq p.1)), .dat (.lst (qs.map fun p => frq p.2)), .dat (frB (ps.map f2)), .un, .un, .un, .un]) ?_ fun ρ e => ?_
  · refine xs_set (ev_cb (ea_cons (EvN.ev (en_lc (is := [11]) (fun _ i acc ρ => acc = (ps.take i).map (fun p => frq (2 * p.2)) ∧ ρ = [.pot a (k + ps.length), .dat (frA ps), .dat (frB ps), .dat (frq q), .dat O, .dat (.lst (os.map fun i : Nat => D.int (0 + (i : Int)))), .dat (.lst (qs.map fun p => frq p.1)), .dat (.lst (qs.map fun p => frq p.2)), .un, .un, .un, .un, .un]) (by decide) (ei_tup (ev_var rfl ?_))))))
    refine ⟨_, rfl, by rw [List.length_map]; omega, ⟨rfl, rfl⟩, fun i d acc ρ hd hI => ?_, fun acc ρ hl2 hI => ?_⟩
    · obtain ⟨rfl, e⟩ := hI
      rw [List.getElem?_map] at hd
      obtain ⟨p, hp, rfl⟩ := Option.map_eq_some_iff.mp hd
      rw [e]
      have sp := (hS p (hps2 i p hp)).2
      have gg : gcds [2, (p.2.den : Int)] = Nat.gcd 2 p.2.den := by simp [gcds]
      have g0 : Nat.gcd 2 p.2.den ≠ 0 := by
        have := Nat.gcd_pos_of_pos_left p.2.den (show 0 < 2 by decide)
        omega
      have g1 : Nat.gcd 2 p.2.den ≤ 2 := Nat.gcd_le_left _ (by decide)
      have gb : ((Nat.gcd 2 p.2.den : Nat) : Int).natAbs < 2 ^ 2 := by rw [Int.natAbs_natCast]; omega
      refine eg_name (et_yes ⟨fun _ => ?_, fun h => nomatch h⟩)
      repeat walk_at "ar"
      refine ix_tupl ⟨0, rfl, rfl⟩ ?_
      refine rd_k (r := rTimesA) rfl (DL.mul_int (mulW (a := 2) (b := 17) (by decide) sp.1 (by decide)) ?_)
      refine ev_call (Z := fun _ _ => False) Flies.none (fun _ => .nil) ?_
      repeat walk_at "ar"
      refine ix_tupl ⟨1, rfl, rfl⟩ ?_
      repeat walk_at "ar"
      refine ⟨Nat.le_of_ble_eq_true rfl, ?_⟩
      repeat walk_at "ar"
      refine ⟨[2, (p.2.den : Int)], rfl, ?_⟩
      rw [gg]
      refine rd_I (fdivG (a := 2) (by omega) gb (by decide)) ?_
      repeat walk_at "ar"
      refine ix_tupl ⟨1, rfl, rfl⟩ ?_
      refine ev_call (Z := fun _ _ => False) Flies.none (fun _ => .nil) ?_
      repeat walk_at "ar"
      refine ix_tupl ⟨1, rfl, rfl⟩ ?_
      repeat walk_at "ar"
      refine ⟨Nat.le_of_ble_eq_true rfl, ?_⟩
      repeat walk_at "ar"
      refine ⟨[2, (p.2.den : Int)], rfl, ?_⟩
      rw [gg]
      refine rd_I (fdivG (a := 2) (by omega) gb (by decide)) ?_
      repeat walk_at "ar"
      refine ⟨Nat.le_of_ble_eq_true rfl, ?_, rfl⟩
      rw [List.take_add_one, hp, List.map_append]
      show _ = _ ++ [frq (2 * p.2)]
      rw [frq_two]
    · obtain ⟨rfl, e⟩ := hI
      rw [e, List.length_map, List.take_length]
      refine ea_nil (rc_tupL ?_)
      show _ = _
      unfold frB
      rw [List.map_map]
      rfl
  subst e
  have A2 : frA (ps.map f2) = frA ps := frA_map ps f2 fun _ => rfl
  have L3 : SmL (ps.map f2) := smL_of (c := 18) (by decide) (fun p hp => by
    obtain ⟨x, hx, rfl⟩ := List.mem_map.mp hp
    exact ⟨(hS x hx).1.mono (by decide), sm_two (hS x hx).2⟩) (by rw [List.length_map]; omega) (by rw [List.length_map]; omega)
  have Q3 : sumP (ps.map f2) = 2 * q := by
    rw [eq]
    exact sumP_mul ps f2 2 fun p _ => by
      show p.1 * (2 * p.2) = 2 * (p.1 * p.2)
      rw [← Rat.mul_assoc, Rat.mul_comm p.1 2, Rat.mul_assoc]
  have smq9 : Sm 945 q := by
    rw [eq]
    exact sum_Sm hS (by omega) (by decide)
  have L4 : SmL [(q, 1), (q, 1)] := smL_of (c := 945) (by decide) (fun p hp => by
    simp only [List.mem_cons, List.not_mem_nil, or_false, or_self] at hp
    rw [hp]
    exact ⟨smq9, sm_one.mono (by decide)⟩) (show (2 * 945 + 1) * (2 + 2) ≤ 8900 by decide) (show 2 ≤ 1000 by decide)
  have Q4 : sumP [(q, 1), (q, 1)] = 2 * q := by
    rw [sumP_cons, sumP_cons, sumP_nil, val_one, Rat.add_zero, show (2 : Rat) = 1 + 1 by decide +kernel, Rat.add_mul, Rat.one_mul]
  let f5 : Pq → Pq := fun p => (p.2, p.1)
  have A5 : frA (ps.map f5) = frB ps := by
    unfold frA frB
    rw [List.map_map]
    rfl
  have B5 : frB (ps.map f5) = frA ps := by
    unfold frA frB
    rw [List.map_map]
    rfl
  have L5 : SmL (ps.map f5) := smL_of (c := 17) (by decide) (fun p hp => by
    obtain ⟨x, hx, rfl⟩ := List.mem_map.mp hp
    exact ⟨(hS x hx).2, (hS x hx).1⟩) (by rw [List.length_map]; omega) (by rw [List.length_map]; omega)
  have Q5 : sumP (ps.map f5) = q := by
    rw [eq]
    exact sumP_congr ps f5 fun p _ => Rat.mul_comm _ _
  refine xs_mid (fun ρ => ρ = [.pot a (k + ps.length), .dat (frA ps), .dat (frB ps), .dat (frq q), .dat O, .dat (.lst (os.map fun i : Nat => D.int (0 + (i : Int)))), .dat (.lst (qs.map fun p => frq p.1)), .dat (.lst (qs.map fun p => frq p.2)), .dat (frB (ps.map f2)), .un, .un, .un, .un]) ?_ fun ρ e => ?_
  · repeat walk_at "ar"
    refine ev_call (Z := fun _ _ => False) Flies.none (fun _ => .nil) ?_
    repeat walk_at "ar"
    refine total2 _ _ (ps.map f2) A2.symm rfl L3 ?_
    refine ev_call (Z := fun _ _ => False) Flies.none (fun _ => .cons .non .nil) ?_
    repeat walk_at "ar"
    refine ⟨Nat.le_of_ble_eq_true rfl, ?_⟩
    repeat walk_at "ar"
    refine total1 _ [(q, 1), (q, 1)] rfl (fun p hp => by
      simp only [List.mem_cons, List.not_mem_nil, or_false, or_self] at hp
      rw [hp]) L4 ?_
    refine ne_fr rfl (Q3.trans Q4.symm) ?_
    refine ⟨false, rfl, fun h => (nomatch h), fun _ => ?_⟩
    repeat walk_at "ar"
    refine ev_call (Z := fun _ _ => False) Flies.none (fun _ => .nil) ?_
    repeat walk_at "ar"
    refine total2 _ _ (ps.map f5) A5.symm B5.symm L5 ?_
    repeat walk_at "ar"
    refine ne_fr rfl Q5 ?_
    refine ⟨false, rfl, fun h => (nomatch h), fun _ => ?_⟩
    exact xs_next rfl
  subst e
  -- part by part
  let f6 : Pq → Pq := fun p => (p.1 * p.2, 1)
  refine xs_mid (fun ρ => ∃ u : DL.Slot, ρ = [.pot a (k + ps.length), .dat (frA ps), .dat (frB ps), .dat (frq q), .dat O, .dat (.lst (os.map fun i : Nat => D.int (0 + (i : Int)))), .dat (.lst (qs.map fun p => frq p.1)), u, .dat (frB (ps.map f2)), .dat (frA (ps.map f6)), .un, .un, .un]) ?_ fun ρ ⟨u, e⟩ => ?_
  · refine xs_set (ev_cb (ea_cons (EvN.ev (en_lc (is := [12, 7]) (fun _ i acc ρ => acc = (ps.take i).map (fun p => frq (p.1 * p.2)) ∧ ρ = [.pot a (k + ps.length), .dat (frA ps), .dat (frB ps), .dat (frq q), .dat O, .dat (.lst (os.map fun i : Nat => D.int (0 + (i : Int)))), .dat (.lst (qs.map fun p => frq p.1)), .un, .dat (frB (ps.map f2)), .un, .un, .un, .un]) (by decide) (ei_zip ?_)))))
    repeat walk_at "ar"
    refine ⟨_, _, .inr rfl, ?_⟩
    rw [zips_fr]
    refine ⟨by rw [List.length_map]; omega, ⟨rfl, rfl⟩, fun i d acc ρ hd hI => ?_, fun acc ρ hl2 hI => ?_⟩
    · obtain ⟨rfl, e⟩ := hI
      rw [List.getElem?_map] at hd
      obtain ⟨p, hp, rfl⟩ := Option.map_eq_some_iff.mp hd
      rw [e]
      have sp := hS p (hps2 i p hp)
      have d1 := p.1.den_pos
      have d2 := p.2.den_pos
      have s1 : (p.1.den : Int).natAbs < 2 ^ 17 := by rw [Int.natAbs_natCast]; exact sp.1.2
      have s2 : (p.2.den : Int).natAbs < 2 ^ 17 := by rw [Int.natAbs_natCast]; exact sp.2.2
      refine eg_tup rfl (egs_cons (is := [12]) (js := [7]) (eg_name (egs_cons (is := [7]) (js := []) (eg_name (egs_nil ?_)))))
      refine et_yes ⟨fun _ => ?_, fun h => nomatch h⟩
      refine ev_call (Z := fun _ _ => False) Flies.none (fun _ => .nil) ?_
      repeat walk_at "ar"
      refine ix_tupl ⟨0, rfl, rfl⟩ ?_
      repeat walk_at "ar"
      refine ix_tupl ⟨0, rfl, rfl⟩ ?_
      refine rd_k (r := rTimesA) rfl (DL.mul_int (mulW (a := 17) (b := 17) sp.1.1 sp.2.1 (by decide)) ?_)
      repeat walk_at "ar"
      refine ix_tupl ⟨1, rfl, rfl⟩ ?_
      repeat walk_at "ar"
      refine ix_tupl ⟨1, rfl, rfl⟩ ?_
      refine rd_k (r := rTimesA) rfl (DL.mul_int (mulW (a := 17) (b := 17) s1 s2 (by decide)) ?_)
      repeat walk_at "ar"
      refine ⟨_, _, rfl, Int.mul_pos (by omega) (by omega), nbM (nbX s1 s2) (by decide), ?_⟩
      rw [← mul_mk]
      refine ⟨?_, rfl⟩
      rw [List.take_add_one, hp, List.map_append]
      rfl
    · obtain ⟨rfl, e⟩ := hI
      rw [e, List.length_map, List.take_length]
      refine ea_nil (rc_tupL ⟨.un, ?_⟩)
      have e6 : frA (ps.map f6) = .tup (ps.map fun p => frq (p.1 * p.2)) := by
        unfold frA
        rw [List.map_map]
        rfl
      rw [e6]
      rfl
  subst e
  have one6 : ∀ p ∈ ps.map f6, p.2 = 1 := fun p hp => by
    obtain ⟨x, _, rfl⟩ := List.mem_map.mp hp
    rfl
  have L6 : SmL (ps.map f6) := smL_of (c := 34) (by decide) (fun p hp => by
    obtain ⟨x, hx, rfl⟩ := List.mem_map.mp hp
    exact ⟨sm_mul (hS x hx).1 (hS x hx).2, sm_one.mono (by decide)⟩) (by rw [List.length_map]; omega) (by rw [List.length_map]; omega)
  have Q6 : sumP (ps.map f6) = q := by
    rw [eq]
    exact sumP_congr ps f6 fun p _ => val_one _
  let f7 : Pq → Pq := fun p => (-p.1, 1)
  have one7 : ∀ p ∈ ps.map f1 ++ ps.map f7, p.2 = 1 := fun p hp => by
    rcases List.mem_append.mp hp with hp | hp
    · exact one1 p hp
    · obtain ⟨x, _, rfl⟩ := List.mem_map.mp hp
      rfl
  have L7 : SmL (ps.map f1 ++ ps.map f7) := smL_of (c := 17) (by decide) (fun p hp => by
    rcases List.mem_append.mp hp with hp | hp
    · exact S1 p hp
    · obtain ⟨x, hx, rfl⟩ := List.mem_map.mp hp
      exact ⟨sm_neg (hS x hx).1, sm_one⟩) (by rw [List.length_append, List.length_map, List.length_map]; omega) (by rw [List.length_append, List.length_map, List.length_map]; omega)
  have Q7 : sumP (ps.map f1 ++ ps.map f7) = 0 := by
    have e1 : sumP (ps.map f7) = -1 * sumP (ps.map f1) := by
      have := sumP_mul (ps.map f1) (fun p => (-p.1, p.2)) (-1) fun p _ => by
        show -p.1 * p.2 = -1 * (p.1 * p.2)
        rw [Rat.neg_mul, Rat.neg_mul, Rat.one_mul]
      rw [← this, List.map_map]
      rfl
    rw [sumP_append, e1, Rat.neg_mul, Rat.one_mul, Rat.add_neg_cancel]
  refine xs_ret ?_
  repeat walk_at "ar"
  refine ev_call (Z := fun _ _ => False) Flies.none (fun _ => .cons .non .nil) ?_
  repeat walk_at "ar"
  refine total1 _ (ps.map f6) rfl one6 L6 ?_
  repeat walk_at "ar"
  refine eq_fr rfl Q6 ?_
  refine ⟨true, rfl, fun _ => ?_, fun h => nomatch h⟩
  repeat walk_at "ar"
  refine ev_call (Z := fun _ _ => False) Flies.none (fun _ => .cons .non .nil) ?_
  repeat walk_at "ar"
  refine EvN.ev (en_lc (is := [12]) (fun _ i acc ρ => acc = (ps.take i).map (fun p => frq (-p.1)) ∧ ρ = [.pot a (k + ps.length), .dat (frA ps), .dat (frB ps), .dat (frq q), .dat O, .dat (.lst (os.map fun i : Nat => D.int (0 + (i : Int)))), .dat (.lst (qs.map fun p => frq p.1)), u, .dat (frB (ps.map f2)), .dat (frA (ps.map f6)), .un, .un, .un]) (by decide) (ei_tup (ev_var rfl ?_)))
  refine ⟨_, rfl, by rw [List.length_map]; omega, ⟨rfl, rfl⟩, fun i d acc ρ hd hI => ?_, fun acc ρ hl2 hI => ?_⟩
  · obtain ⟨rfl, e⟩ := hI
    rw [List.getElem?_map] at hd
    obtain ⟨p, hp, rfl⟩ := Option.map_eq_some_iff.mp hd
    rw [e]
    refine eg_name (et_yes ⟨fun _ => ?_, fun h => nomatch h⟩)
    repeat walk_at "ar"
    refine ix_tupl ⟨0, rfl, rfl⟩ ?_
    repeat walk_at "ar"
    refine ix_tupl ⟨1, rfl, rfl⟩ ?_
    repeat walk_at "ar"
    refine ⟨Nat.le_of_ble_eq_true rfl, ?_, rfl⟩
    rw [List.take_add_one, hp, List.map_append]
    show _ = _ ++ [frq (-p.1)]
    rw [frq_neg]
  · obtain ⟨rfl, e⟩ := hI
    rw [e, List.length_map, List.take_length]
    refine ea_nil (rc_tupL ?_)
    have e7 : frA (ps.map f1 ++ ps.map f7) = .tup ((ps.map fun p => frq p.1) ++ ps.map fun p => frq (-p.1)) := by
      unfold frA
      rw [List.map_append, List.map_map, List.map_map]
      rfl
    refine rd_k (r := rPlus) rfl (plus_tup (by rw [List.length_map, List.length_map]; omega) ?_)
    repeat walk_at "ar"
    refine total1 _ (ps.map f1 ++ ps.map f7) e7.symm one7 L7 ?_
    repeat walk_at "ar"
    refine ⟨Nat.le_of_ble_eq_true rfl, ?_⟩
    rw [Q7]
    refine eq_fr (r := 0) rfl rfl ?_
    exact ⟨_, rfl, hf⟩
end
end K02
namespace K02
variable [TabT]

abbrev s_l_right : Stmt := topS 25
abbrev n_l_right : List Str := ["_law_pot_here", "_law_lap", "_law_many", "_law_some_here", "_law_weights", "_law_at", "_law_turn"]
abbrev p_l_right : List Str := ["_law_pot_here"]
theorem sc_l_right : FnScope n_l_right p_l_right (defScope s_l_right) := ⟨rfl, rfl, rfl, by decide +kernel, rfl, by decide +kernel, by decide +kernel⟩

section
variable {P : Program} {w : World} {K : PySem.W.Frag} {mg : Str → Option Value} {base : Heap}
def fp_right : FP := fun k ds R _ => ds = [] ∧ k + 5000 < 2 ^ 40 ∧ ∀ k', R (.bl true) k'
set_option maxRecDepth 20000 in
theorem ok_right {f : Addr} {fd : FuncData} (B : Bt mg) (c_total_2 : Cal P w K mg base CX0 4 "total" p_total [] (spD K fs_total)) (c_total_1 : Cal P w K mg base CX0 4 "total" p_total [.non] (spD K fs_total)) (c_l_take : Cal P w K mg base CX0 1 "_law_take" p_l_take [] (spP K fp_take)) (c_l_of : Cal P w K mg base CX0 2 "_law_of" p_l_of [] (spP K fp_of)) (c_l_fraction : Cal P w K mg base CX0 2 "_law_fraction" p_l_fraction [] (spD K fs_lfraction))
    (c_l_drawn_fraction : Cal P w K mg base CX0 3 "_law_drawn_fraction" p_l_drawn_fraction [] (spP K fp_drawn)) (c_l_one_right : Cal P w K mg base CX0 5 "_law_one_right" p_l_one_right [] (spP K fp_one)) (F : Fun K "_law_right" "_law_right" s_l_right f fd) : FnG P w K mg base CX0 6 f fd p_l_right (spP K fp_right) := by
  refine okG F sc_l_right (spP_len fun k ds R Z ⟨e, _⟩ => by rw [e]; rfl) (fun cdv A outer s H vs Q E gd hr ⟨a, ws, G, ds, k, R, Z, ev, le, ga, pa, kd, hf, hq, hz⟩ => ?_)
  have hu : (cxOf CX0 P w K mg base n_l_right "_law_right" (defScope s_l_right) f cdv A outer s H E).nox.A.units + 64 < cLine := hr.units
  obtain ⟨rfl, k1, hf⟩ := hf
  subst ev
  refine ⟨_, PSs.nox ((pss_cons (ps_for PassesOwn.never rfl (pi_range1 rfl B.b_range (pa_cons pe_int pa_nil)) (pg_name (i := 1) sc_l_right.nd rfl (by first | exact Or.inl rfl | exact Or.inr rfl))
      (pss_cons (ps_set (i := 2) sc_l_right.nd rfl (by first | exact Or.inl rfl | exact Or.inr rfl) (pe_cal c_l_take gd (hr.mono (by first | decide | omega)) pass0 (pa_cons (pv 0) (pa_cons (pe_cal c_l_of gd (hr.mono (by first | decide | omega)) pass0 (pa_cons (pv 0) (pa_cons (pe_lst (pa_cons pe_int (pa_cons pe_int (pa_cons pe_int pa_nil)))) pa_nil))) pa_nil))))
      (pss_cons (ps_set (i := 3) sc_l_right.nd rfl (by first | exact Or.inl rfl | exact Or.inr rfl) (pe_callTy (call_tuple_of) rfl B.b_tuple bt_tuple (pa_cons (pe_lc (own := [("_law_turn", 6)]) (g := (gName 6)) (tt := tYes) rfl sc_l_right.nd (pi_range1 rfl B.b_range (pa_cons (pv 2) pa_nil)) (blkOk_by (N := n_l_right) (sc := defScope s_l_right) (by decide +kernel)) (fun _ _ _ _ _ => (pg_name (i := 6) sc_l_right.nd rfl (by first | exact Or.inl rfl | exact Or.inr rfl))) (fun _ _ _ _ _ => pts_nil) (fun _ _ _ _ _ => (pe_cal c_l_drawn_fraction gd (hr.mono (by first | decide | omega)) pass0 (pa_cons (pv 0) pa_nil)))) pa_nil)))
      (pss_cons (ps_set (i := 4) sc_l_right.nd rfl (by first | exact Or.inl rfl | exact Or.inr rfl) (pe_callTy (call_tuple_of) rfl B.b_tuple bt_tuple (pa_cons (pe_lc (own := [("_law_turn", 6)]) (g := (gName 6)) (tt := tYes) rfl sc_l_right.nd (pi_range1 rfl B.b_range (pa_cons (pv 2) pa_nil)) (blkOk_by (N := n_l_right) (sc := defScope s_l_right) (by decide +kernel)) (fun _ _ _ _ _ => (pg_name (i := 6) sc_l_right.nd rfl (by first | exact Or.inl rfl | exact Or.inr rfl))) (fun _ _ _ _ _ => pts_nil) (fun _ _ _ _ _ => (pe_cal c_l_fraction gd (hr.mono (by first | decide | omega)) pass0 (pa_cons (pe_op op_sub (pe_cal c_l_take gd (hr.mono (by first | decide | omega)) pass0 (pa_cons (pv 0) (pa_cons pe_int pa_nil))) pe_int) (pa_cons (pe_op (kPlus (K := K) rfl) pe_int (pe_cal c_l_take gd (hr.mono (by first | decide | omega)) pass0 (pa_cons (pv 0) (pa_cons pe_int pa_nil)))) pa_nil))))) pa_nil)))
      (pss_cons (ps_if (pt_not (pt_val (pe_cal c_l_one_right gd (hr.mono (by first | decide | omega)) pass0 (pa_cons (pv 0) (pa_cons (pv 3) (pa_cons (pv 4) pa_nil))))))
      (pss_one (ps_ret pe_bl))
      pss_nil)
      (pss_cons (ps_set (i := 5) sc_l_right.nd rfl (by first | exact Or.inl rfl | exact Or.inr rfl) (pe_cal c_l_take gd (hr.mono (by first | decide | omega)) pass0 (pa_cons (pv 0) (pa_cons (pe_op op_plus (pv 2) pe_int) pa_nil))))
      (pss_one (ps_if (pt_cmpR (op_neA hu) (pe_cal c_total_1 gd (hr.mono (by first | decide | omega)) pass0 (pa_cons (pe_tup (pa_cons (pe_cal c_total_1 gd (hr.mono (by first | decide | omega)) pass0 (pa_cons (pe_slice sl_cut (pv 3) po_none (po_some (pv 5))) pa_nil)) (pa_cons (pe_cal c_total_1 gd (hr.mono (by first | decide | omega)) pass0 (pa_cons (pe_slice sl_cut (pv 3) (po_some (pv 5)) po_none) pa_nil)) pa_nil))) pa_nil)) (pe_cal c_total_1 gd (hr.mono (by first | decide | omega)) pass0 (pa_cons (pv 3) pa_nil)) (nomark _))
      (pss_one (ps_ret pe_bl))
      pss_nil))))))))
      (pss_one (ps_ret (pe_and (pe_cmpR (op_eqA hu) (pe_cal c_total_1 gd (hr.mono (by first | decide | omega)) pass0 (pa_cons (pe_tup pa_nil) pa_nil)) (pe_tup (pa_cons pe_int (pa_cons pe_int pa_nil))) (nomark _)) (pe_one (pe_cmpR (op_eqA hu) (pe_cal c_total_2 gd (hr.mono (by first | decide | omega)) pass0 (pa_cons (pe_tup pa_nil) (pa_cons (pe_tup pa_nil) pa_nil))) (pe_tup (pa_cons pe_int (pa_cons pe_int pa_nil))) (nomark _)))))))), fin_P le ga pa kd hq ?_⟩
  refine xs_seq ?_
  refine xs_for (is := [1]) (fun _ i ρ => ∃ kk, ∃ u1 u2 u3 u4 u5 u6 : DL.Slot, kk ≤ k + 300 * i ∧ ρ = [.pot a kk, u1, u2, u3, u4, u5, u6]) (ei_range1 ?_)
  repeat walk_at "ev"
  refine ⟨by decide, by decide, ⟨k, .un, .un, .un, .un, .un, .un, by omega, rfl⟩, fun i d ρ hd hI => ?_, fun ρ hI => ?_⟩
  · obtain ⟨kk, u1, u2, u3, u4, u5, u6, hk, rfl⟩ := hI
    obtain ⟨rfl, hi⟩ := ints_get hd
    have hi8 : i < 8 := hi
    refine eg_name ?_
    refine xs_mid (fun ρ => ∃ m : Nat, m ≤ 25 ∧ ρ = [.pot a (kk + 2), .dat (.int (0 + (i : Int))), .dat (.int (m : Int)), u3, u4, u5, u6]) ?_ fun ρ ⟨m, hm, e⟩ => ?_
    · refine xs_set (ev_callP (Z := fun _ _ => False) Flies.none (fun _ => .nil) (by exact ⟨_, _, rfl⟩) ?_)
      refine ea_cons (ev_callP (Z := fun _ _ => False) Flies.none (fun _ => .nil) (by exact ⟨_, _, rfl⟩) ?_)
      repeat walk_at "ar"
      refine ⟨Nat.le_of_ble_eq_true rfl, ?_⟩
      repeat walk_at "ar"
      refine ⟨_, _, rfl, _, rfl, by simp, by simp, by omega, fun x hx => ?_⟩
      have hx' : ∃ n : Int, x = .int n ∧ 0 < n ∧ n ≤ 25 := by
        simp only [List.mem_cons, List.not_mem_nil, or_false] at hx
        rcases hx with rfl | rfl | rfl
        · exact ⟨_, rfl, by decide, by decide⟩
        · exact ⟨_, rfl, by decide, by decide⟩
        · exact ⟨_, rfl, by decide, by decide⟩
      obtain ⟨n, rfl, n0, n1⟩ := hx'
      repeat walk_at "ar"
      refine ⟨_, _, rfl, _, rfl, n0, by omega, by omega, fun d d0 d1 => ?_⟩
      refine ⟨d.toNat, by omega, ?_⟩
      rw [Int.toNat_of_nonneg d0]
      rfl
    subst e
    have drawnP : ∀ (P0 : PD) (ρ : List DL.Slot), True := fun _ _ => trivial
    refine xs_mid (fun ρ => ∃ qs : List Rat, qs.length = m ∧ (∀ q ∈ qs, Sm 17 q) ∧ ρ = [.pot a (kk + 2 + 5 * m), .dat (.int (0 + (i : Int))), .dat (.int (m : Int)), .dat (.tup (qs.map frq)), u4, u5, .un]) ?_ fun ρ ⟨qs, hql, hqS, e⟩ => ?_
    · refine xs_set (ev_cb (ea_cons (EvN.ev (en_lc (is := [6]) (fun _ j acc ρ => ∃ qs : List Rat, acc = qs.map frq ∧ qs.length = j ∧ (∀ q ∈ qs, Sm 17 q) ∧ ρ = [.pot a (kk + 2 + 5 * j), .dat (.int (0 + (i : Int))), .dat (.int (m : Int)), u3, u4, u5, .un]) (by decide) (ei_range1 ?_)))))
      repeat walk_at "ar"
      refine ⟨(m : Int), rfl, by omega, by omega, ?_⟩
      rw [Int.toNat_natCast]
      refine ⟨by rw [ints_len]; omega, ⟨[], rfl, rfl, by simp, rfl⟩, fun j d acc ρ hd hI => ?_, fun acc ρ hl2 hI => ?_⟩
      · obtain ⟨qs, rfl, hq1, hq2, e⟩ := hI
        obtain ⟨rfl, hj⟩ := ints_get hd
        rw [e]
        refine eg_name (et_yes ⟨fun _ => ?_, fun h => nomatch h⟩)
        refine ev_callP (Z := fun _ _ => False) Flies.none (fun _ => .nil) (by exact ⟨_, _, rfl⟩) ?_
        repeat walk_at "ar"
        refine ⟨_, _, rfl, rfl, by omega, fun q sq => ?_⟩
        refine ⟨qs ++ [q], by rw [List.map_append]; rfl, by rw [List.length_append, hq1]; rfl, fun x hx => ?_, ?_⟩
        · rcases List.mem_append.mp hx with hx | hx
          · exact hq2 x hx
          · rw [List.mem_singleton.mp hx]
            exact sq
        · rw [show kk + 2 + 5 * j + 5 = kk + 2 + 5 * (j + 1) by omega]
          rfl
      · obtain ⟨qs, rfl, hq1, hq2, e⟩ := hI
        rw [ints_len] at hq1 e
        rw [e]
        refine ea_nil (rc_tupL ?_)
        exact ⟨qs, hq1, hq2, rfl⟩
    subst e
    refine xs_mid (fun ρ => ∃ rs : List Rat, rs.length = m ∧ (∀ q ∈ rs, Sm 17 q) ∧ ρ = [.pot a (kk + 2 + 5 * m + 2 * m), .dat (.int (0 + (i : Int))), .dat (.int (m : Int)), .dat (.tup (qs.map frq)), .dat (.tup (rs.map frq)), u5, .un]) ?_ fun ρ ⟨rs, hrl, hrS, e⟩ => ?_
    · refine xs_set (ev_cb (ea_cons (EvN.ev (en_lc (is := [6]) (fun _ j acc ρ => ∃ rs : List Rat, acc = rs.map frq ∧ rs.length = j ∧ (∀ q ∈ rs, Sm 17 q) ∧ ρ = [.pot a (kk + 2 + 5 * m + 2 * j), .dat (.int (0 + (i : Int))), .dat (.int (m : Int)), .dat (.tup (qs.map frq)), u4, u5, .un]) (by decide) (ei_range1 ?_)))))
      repeat walk_at "ar"
      refine ⟨(m : Int), rfl, by omega, by omega, ?_⟩
      rw [Int.toNat_natCast]
      refine ⟨by rw [ints_len]; omega, ⟨[], rfl, rfl, by simp, rfl⟩, fun j d acc ρ hd hI => ?_, fun acc ρ hl2 hI => ?_⟩
      · obtain ⟨rs, rfl, hq1, hq2, e⟩ := hI
        obtain ⟨rfl, hj⟩ := ints_get hd
        rw [e]
        refine eg_name (et_yes ⟨fun _ => ?_, fun h => nomatch h⟩)
        refine ev_call (Z := fun _ _ => False) Flies.none (fun _ => .nil) ?_
        repeat walk_at "ar"
        refine ev_callP (Z := fun _ _ => False) Flies.none (fun _ => .nil) (by exact ⟨_, _, rfl⟩) ?_
        repeat walk_at "ar"
        refine ⟨_, _, rfl, _, rfl, by decide, by decide, by omega, fun t t0 t1 => ?_⟩
        repeat walk_at "ar"
        refine ev_callP (Z := fun _ _ => False) Flies.none (fun _ => .nil) (by exact ⟨_, _, rfl⟩) ?_
        repeat walk_at "ar"
        refine ⟨_, _, rfl, _, rfl, by decide, by decide, by omega, fun l l0 l1 => ?_⟩
        repeat walk_at "ar"
        have hl : (1 + l).toNat ≠ 0 := by omega
        have sm := mk_small (n := t - 9) (d := (1 + l).toNat) (a := 17) hl (natAbs_lt (by omega) (by omega))
        refine ⟨_, _, rfl, by omega, nbM (natAbs_lt (a := 17) (by omega) (by omega)) (by decide), ?_⟩
        refine ⟨rs ++ [mkRat (t - 9) (1 + l).toNat], by rw [List.map_append]; rfl, by rw [List.length_append, hq1]; rfl, fun x hx => ?_, ?_⟩
        · rcases List.mem_append.mp hx with hx | hx
          · exact hq2 x hx
          · rw [List.mem_singleton.mp hx]
            exact ⟨sm.1, Nat.lt_of_le_of_lt sm.2 (by omega)⟩
        · rw [show kk + 2 + 5 * m + 2 * (j + 1) = kk + 2 + 5 * m + 2 * j + 1 + 1 by omega]
          rfl
      · obtain ⟨rs, rfl, hq1, hq2, e⟩ := hI
        rw [ints_len] at hq1 e
        rw [e]
        refine ea_nil (rc_tupL ?_)
        exact ⟨rs, hq1, hq2, rfl⟩
    subst e
    have hza : frA (qs.zip rs) = .tup (qs.map frq) := by
      unfold frA
      rw [show (fun p : Pq => frq p.1) = frq ∘ Prod.fst by rfl, ← List.map_map, List.map_fst_zip (by omega)]
    have hzb : frB (qs.zip rs) = .tup (rs.map frq) := by
      unfold frB
      rw [show (fun p : Pq => frq p.2) = frq ∘ Prod.snd by rfl, ← List.map_map, List.map_snd_zip (by omega)]
    have hzl : (qs.zip rs).length = m := by rw [List.length_zip, hql, hrl, Nat.min_self]
    have hzS : ∀ p ∈ qs.zip rs, SmP 17 p := fun p hp => by
      have := List.of_mem_zip hp
      exact ⟨hqS _ this.1, hrS _ this.2⟩
    refine xs_mid (fun ρ => ρ = [.pot a (kk + 2 + 5 * m + 2 * m + m), .dat (.int (0 + (i : Int))), .dat (.int (m : Int)), .dat (.tup (qs.map frq)), .dat (.tup (rs.map frq)), u5, .un]) ?_ fun ρ e => ?_
    · repeat walk_at "ar"
      refine ev_callP (Z := fun _ _ => False) Flies.none (fun _ => .nil) (by exact ⟨_, _, rfl⟩) ?_
      repeat walk_at "ar"
      refine ⟨_, _, rfl, qs.zip rs, by rw [hza, hzb]; rfl, hzS, by omega, by omega, ?_⟩
      rw [hzl]
      refine ⟨true, rfl, fun h => (nomatch h), fun _ => ?_⟩
      exact xs_next rfl
    subst e
    refine xs_mid (fun ρ => ∃ c : Nat, c ≤ m ∧ ρ = [.pot a (kk + 2 + 5 * m + 2 * m + m + 1), .dat (.int (0 + (i : Int))), .dat (.int (m : Int)), .dat (.tup (qs.map frq)), .dat (.tup (rs.map frq)), .dat (.int (c : Int)), .un]) ?_ fun ρ ⟨c, hc, e⟩ => ?_
    · refine xs_set (ev_callP (Z := fun _ _ => False) Flies.none (fun _ => .nil) (by exact ⟨_, _, rfl⟩) ?_)
      repeat walk_at "ar"
      refine ⟨_, _, rfl, _, rfl, by omega, by omega, by omega, fun c c0 c1 => ?_⟩
      refine ⟨c.toNat, by omega, ?_⟩
      rw [Int.toNat_of_nonneg c0]
      rfl
    subst e
    let g : Rat → Pq := fun q => (q, 1)
    have oneG : ∀ (l : List Rat), ∀ p ∈ l.map g, p.2 = 1 := fun l p hp => by
      obtain ⟨x, _, rfl⟩ := List.mem_map.mp hp
      rfl
    have frG : ∀ l : List Rat, frA (l.map g) = .tup (l.map frq) := fun l => by
      unfold frA
      rw [List.map_map]
      rfl
    have sG : ∀ l : List Rat, (∀ q ∈ l, Sm 17 q) → ∀ p ∈ l.map g, SmP 17 p := fun l hl p hp => by
      obtain ⟨x, hx, rfl⟩ := List.mem_map.mp hp
      exact ⟨hl x hx, sm_one⟩
    have LG : ∀ l : List Rat, (∀ q ∈ l, Sm 17 q) → l.length ≤ 25 → SmL (l.map g) := fun l hl hn => smL_of (c := 17) (by decide) (sG l hl) (by rw [List.length_map]; omega) (by rw [List.length_map]; omega)
    have tl : ((qs.map frq).take c) = (qs.take c).map frq := (List.map_take ..).symm
    have dl : ((qs.map frq).drop c) = (qs.drop c).map frq := (List.map_drop ..).symm
    have cutT : DL.cutD (qs.map frq) none (some (c : Int)) = (qs.take c).map frq := by
      unfold DL.cutD HT.sIx
      simp only [List.length_map, hql, Int.toNat_natCast, Nat.sub_zero, List.drop_zero]
      rw [if_neg (by omega), Nat.min_eq_left hc, tl]
    have cutR : DL.cutD (qs.map frq) (some (c : Int)) none = (qs.drop c).map frq := by
      unfold DL.cutD HT.sIx
      simp only [List.length_map, hql, Int.toNat_natCast]
      rw [if_neg (by omega), Nat.min_eq_left hc, List.take_of_length_le (by rw [List.length_drop, List.length_map]; omega), dl]
    have hT : ∀ q ∈ qs.take c, Sm 17 q := fun q hq => hqS q (List.mem_of_mem_take hq)
    have hD : ∀ q ∈ qs.drop c, Sm 17 q := fun q hq => hqS q (List.mem_of_mem_drop hq)
    have smT : Sm 945 (sumP ((qs.take c).map g)) := sum_Sm (sG _ hT) (by rw [List.length_map, List.length_take]; omega) (by decide)
    have smD : Sm 945 (sumP ((qs.drop c).map g)) := sum_Sm (sG _ hD) (by rw [List.length_map, List.length_drop]; omega) (by decide)
    have L4 : SmL [(sumP ((qs.take c).map g), 1), (sumP ((qs.drop c).map g), 1)] := smL_of (c := 945) (by decide) (fun p hp => by
      simp only [List.mem_cons, List.not_mem_nil, or_false] at hp
      rcases hp with rfl | rfl
      · exact ⟨smT, sm_one.mono (by decide)⟩
      · exact ⟨smD, sm_one.mono (by decide)⟩) (show (2 * 945 + 1) * (2 + 2) ≤ 8900 by decide) (show 2 ≤ 1000 by decide)
    have Q4 : sumP [(sumP ((qs.take c).map g), 1), (sumP ((qs.drop c).map g), 1)] = sumP (qs.map g) := by
      rw [sumP_cons, sumP_cons, sumP_nil, val_one, val_one, Rat.add_zero, ← sumP_append, ← List.map_append, List.take_append_drop]
    have total1 : ∀ (x : D) (rs : List Pq) {P' : D → Prop} {Zr : Addr → D → Prop}, x = frA rs → (∀ p ∈ rs, p.2 = 1) → SmL rs → P' (frq (sumP rs)) → fs_total [x, .non] P' Zr := fun x rs P' Zr e1 e2 h p => ⟨rs, .non, by rw [e1], .inl ⟨rfl, e2⟩, h, p⟩
    repeat walk_at "ar"
    refine ev_call (Z := fun _ _ => False) Flies.none (fun _ => .cons .non .nil) ?_
    repeat walk_at "ar"
    refine ev_call (Z := fun _ _ => False) Flies.none (fun _ => .cons .non .nil) ?_
    refine ea_cons (ev_cut (ev_var rfl (eo_none (eo_some (ev_var rfl ⟨_, rfl, .inr (.inl ⟨_, rfl, ea_nil ?_⟩)⟩)))))
    refine total1 _ ((qs.take c).map g) (by rw [frG, cutT]) (oneG _) (LG _ hT (by rw [List.length_take]; omega)) ?_
    repeat walk_at "ar"
    refine ev_call (Z := fun _ _ => False) Flies.none (fun _ => .cons .non .nil) ?_
    refine ea_cons (ev_cut (ev_var rfl (eo_some (ev_var rfl ⟨_, rfl, eo_none (.inr (.inl ⟨_, rfl, ea_nil ?_⟩))⟩))))
    refine total1 _ ((qs.drop c).map g) (by rw [frG, cutR]) (oneG _) (LG _ hD (by rw [List.length_drop]; omega)) ?_
    repeat walk_at "ar"
    refine ⟨Nat.le_of_ble_eq_true rfl, ?_⟩
    repeat walk_at "ar"
    refine total1 _ [(sumP ((qs.take c).map g), 1), (sumP ((qs.drop c).map g), 1)] rfl (fun p hp => by
      simp only [List.mem_cons, List.not_mem_nil, or_false] at hp
      rcases hp with rfl | rfl <;> rfl) L4 ?_
    refine ev_call (Z := fun _ _ => False) Flies.none (fun _ => .cons .non .nil) ?_
    repeat walk_at "ar"
    refine total1 _ (qs.map g) (frG qs).symm (oneG qs) (LG qs hqS (by omega)) ?_
    refine ne_fr rfl Q4 ?_
    refine ⟨false, rfl, fun h => (nomatch h), fun _ => ?_⟩
    refine xs_next ?_
    exact ⟨_, _, _, _, _, _, _, by omega, rfl⟩
  · obtain ⟨kk, u1, u2, u3, u4, u5, u6, hk, rfl⟩ := hI
    have L0 : SmL [] := smL_of (c := 17) (by decide) (by simp) (by decide) (by decide)
    refine xs_ret ?_
    repeat walk_at "ar"
    refine ev_call (Z := fun _ _ => False) Flies.none (fun _ => .cons .non .nil) ?_
    repeat walk_at "ar"
    refine ⟨Nat.le_of_ble_eq_true rfl, ?_⟩
    repeat walk_at "ar"
    refine ⟨[], .non, rfl, .inl ⟨rfl, by simp⟩, L0, ?_⟩
    repeat walk_at "ar"
    refine ⟨Nat.le_of_ble_eq_true rfl, ?_⟩
    refine eq_fr (r := 0) rfl rfl ?_
    refine ⟨true, rfl, fun _ => ?_, fun h => (nomatch h)⟩
    repeat walk_at "ar"
    refine ev_call (Z := fun _ _ => False) Flies.none (fun _ => .nil) ?_
    repeat walk_at "ar"
    refine ⟨Nat.le_of_ble_eq_true rfl, ?_⟩
    repeat walk_at "ar"
    refine ⟨Nat.le_of_ble_eq_true rfl, ?_⟩
    repeat walk_at "ar"
    refine ⟨[], _, rfl, .inr rfl, L0, ?_⟩
    repeat walk_at "ar"
    refine ⟨Nat.le_of_ble_eq_true rfl, ?_⟩
    refine eq_fr (r := 0) rfl rfl ?_
    exact ⟨_, rfl, hf _⟩
end
end K02
namespace K02
variable [TabT]
abbrev s_law : Stmt := topS 26
abbrev n_law : List Str := ["_law_script", "_law_place"]
abbrev p_law : List Str := ["_law_script"]
theorem sc_law : FnScope n_law p_law (defScope s_law) := ⟨rfl, rfl, rfl, by decide +kernel, rfl, by decide +kernel, by decide +kernel⟩

section
variable {P : Program} {w : World} {K : PySem.W.Frag} {mg : Str → Option Value} {base : Heap}
def fs_law : FS := fun ds R _ => ∃ ns, ds = [.scr ns] ∧ R (.bl true)
theorem ok_law {f : Addr} {fd : FuncData} (B : Bt mg) (c_l_cells : Cal P w K mg base CX0 1 "_law_cells" p_l_cells [] (spD K fs_cells)) (c_l_pot : Cal P w K mg base CX0 1 "_law_pot" p_l_pot [] (spN K fn_pot)) (c_l_right : Cal P w K mg base CX0 6 "_law_right" p_l_right [] (spP K fp_right)) (F : Fun K "law" "law" s_law f fd) : FnG P w K mg base CX0 7 f fd p_law (spD K fs_law) := by
  refine okG F sc_law (spD_len fun ds R Z ⟨ns, e, _⟩ => by rw [e]; rfl) (fun cdv A outer s H vs Q E gd hr ⟨G, ds, R, Z, le, kd, hf, hq, hz⟩ => ?_)
  obtain ⟨ns, rfl, hf⟩ := hf
  refine ⟨_, PSs.nox ((pss_one (ps_ret (pe_callB (cr_all rfl) rfl B.b_all bt_all (pa_cons (pe_lc (own := [("_law_place", 1)]) (g := (gName 1)) (tt := tYes) rfl sc_law.nd (pi_list (pe_cal c_l_cells gd (hr.mono (by first | decide | omega)) pass0 (pa_cons (pv 0) (pa_cons pe_int pa_nil)))) (blkOk_by (N := n_law) (sc := defScope s_law) (by decide +kernel)) (fun _ _ _ _ _ => (pg_name (i := 1) sc_law.nd rfl (by first | exact Or.inl rfl | exact Or.inr rfl))) (fun _ _ _ _ _ => pts_nil) (fun _ _ _ _ _ => (pe_cal c_l_right gd (hr.mono (by first | decide | omega)) pass0 (pa_cons (pe_cal c_l_pot gd (hr.mono (by first | decide | omega)) pass0 (pa_cons (pv 0) (pa_cons (pv 1) pa_nil))) pa_nil)))) pa_nil))))), fin_D le kd hq ?_⟩
  refine xs_ret (ev_cb (ea_cons (EvN.ev (en_lc (is := [1]) (fun _ i acc ρ => acc = List.replicate i (.bl true) ∧ ρ = [.dat (.scr ns), .un]) (by decide) (ei_list (ev_call (Z := fun _ _ => False) Flies.none (fun _ => .nil) ?_))))))
  repeat walk_at "ar"
  refine ⟨ns, 5, rfl, by decide, by decide, fun n hn => ?_⟩
  refine ⟨_, rfl, by rw [ints_len]; omega, ⟨rfl, rfl⟩, fun i d acc ρ hd hI => ?_, fun acc ρ hl2 hI => ?_⟩
  · obtain ⟨rfl, e⟩ := hI
    obtain ⟨rfl, hi⟩ := ints_get hd
    rw [e]
    refine eg_name (et_yes ⟨fun _ => ?_, fun h => nomatch h⟩)
    refine ev_callPN (Z := fun _ _ => False) Flies.none (fun _ => .nil) (eq_call ?_)
    repeat walk_at "ar"
    refine ⟨⟨ns, _, rfl, by omega, by omega⟩, ?_⟩
    repeat walk_at "ar"
    refine ⟨rfl, by decide, fun k' => ?_⟩
    exact ⟨by rw [List.replicate_succ'], rfl⟩
  · obtain ⟨rfl, e⟩ := hI
    repeat walk_at "ar"
    rw [ints_len, show List.replicate n (D.bl true) = (List.replicate n true).map .bl by rw [List.map_replicate]]
    refine rc_k (r := rAll) rfl (rc_all ?_)
    rw [show (List.replicate n true).all id = true by simp]
    exact hf
end
end K02
namespace K02
open PySem PySem.Spec PyProof.Rows L2 DL
variable [TabT]
set_option maxRecDepth 100000 in
theorem all_mk {l : PySem.W.OpenLaw} {w : World} {K : PySem.W.Frag} {h : Heap} {mg : Str → Option Value} {fa : Addr} (X : K.In h) (G : h.Ns mainGlobals mg) (hfa : mg "law" = some (.ref fa))
    {T_ONE : Addr} {td_ONE : Option Addr} {tn_ONE : Nat} {tsl_ONE : Array (Option Value)} {tt1_ONE tt2_ONE : Tok}
    {f_l_pot : Addr} {od_l_pot an_l_pot : Option Addr} {sl_l_pot : Array (Option Value)} {oc_l_pot kV_l_pot dc_l_pot pm_l_pot cd_l_pot ct_l_pot : Value}
    {f_l_take : Addr} {od_l_take an_l_take : Option Addr} {sl_l_take : Array (Option Value)} {oc_l_take kV_l_take dc_l_take pm_l_take cd_l_take ct_l_take : Value}
    {f_l_ones : Addr} {od_l_ones an_l_ones : Option Addr} {sl_l_ones : Array (Option Value)} {oc_l_ones kV_l_ones dc_l_ones pm_l_ones cd_l_ones ct_l_ones : Value}
    {f_l_gcd : Addr} {od_l_gcd an_l_gcd : Option Addr} {sl_l_gcd : Array (Option Value)} {oc_l_gcd kV_l_gcd dc_l_gcd pm_l_gcd cd_l_gcd ct_l_gcd : Value}
    {f_l_fraction : Addr} {od_l_fraction an_l_fraction : Option Addr} {sl_l_fraction : Array (Option Value)} {oc_l_fraction kV_l_fraction dc_l_fraction pm_l_fraction cd_l_fraction ct_l_fraction : Value}
    {f_l_sum : Addr} {od_l_sum an_l_sum : Option Addr} {sl_l_sum : Array (Option Value)} {oc_l_sum kV_l_sum dc_l_sum pm_l_sum cd_l_sum ct_l_sum : Value}
    {f_l_some : Addr} {od_l_some an_l_some : Option Addr} {sl_l_some : Array (Option Value)} {oc_l_some kV_l_some dc_l_some pm_l_some cd_l_some ct_l_some : Value}
    {f_l_of : Addr} {od_l_of an_l_of : Option Addr} {sl_l_of : Array (Option Value)} {oc_l_of kV_l_of dc_l_of pm_l_of cd_l_of ct_l_of : Value}
    {f_l_drawn_fraction : Addr} {od_l_drawn_fraction an_l_drawn_fraction : Option Addr} {sl_l_drawn_fraction : Array (Option Value)} {oc_l_drawn_fraction kV_l_drawn_fraction dc_l_drawn_fraction pm_l_drawn_fraction cd_l_drawn_fraction ct_l_drawn_fraction : Value}
    {f_l_cells : Addr} {od_l_cells an_l_cells : Option Addr} {sl_l_cells : Array (Option Value)} {oc_l_cells kV_l_cells dc_l_cells pm_l_cells cd_l_cells ct_l_cells : Value}
    {f_is_integer : Addr} {od_is_integer an_is_integer : Option Addr} {sl_is_integer : Array (Option Value)} {oc_is_integer kV_is_integer dc_is_integer pm_is_integer cd_is_integer ct_is_integer : Value}
    {f_is_fraction : Addr} {od_is_fraction an_is_fraction : Option Addr} {sl_is_fraction : Array (Option Value)} {oc_is_fraction kV_is_fraction dc_is_fraction pm_is_fraction cd_is_fraction ct_is_fraction : Value}
    {f_are_fractions : Addr} {od_are_fractions an_are_fractions : Option Addr} {sl_are_fractions : Array (Option Value)} {oc_are_fractions kV_are_fractions dc_are_fractions pm_are_fractions cd_are_fractions ct_are_fractions : Value}
    {f_cut : Addr} {od_cut an_cut : Option Addr} {sl_cut : Array (Option Value)} {oc_cut kV_cut dc_cut pm_cut cd_cut ct_cut : Value}
    {f_fraction : Addr} {od_fraction an_fraction : Option Addr} {sl_fraction : Array (Option Value)} {oc_fraction kV_fraction dc_fraction pm_fraction cd_fraction ct_fraction : Value}
    {D_fraction : Addr} {oD_fraction : Value} {dD_fraction : Option Addr} {nD_fraction : Nat} {sD_fraction : Array (Option Value)} {tk_fraction : Tok}
    {f_total : Addr} {od_total an_total : Option Addr} {sl_total : Array (Option Value)} {oc_total kV_total dc_total pm_total cd_total ct_total : Value}
    {D_total : Addr} {oD_total : Value} {dD_total : Option Addr} {nD_total : Nat} {sD_total : Array (Option Value)}
    {f_l_one_right : Addr} {od_l_one_right an_l_one_right : Option Addr} {sl_l_one_right : Array (Option Value)} {oc_l_one_right kV_l_one_right dc_l_one_right pm_l_one_right cd_l_one_right ct_l_one_right : Value}
    {f_l_right : Addr} {od_l_right an_l_right : Option Addr} {sl_l_right : Array (Option Value)} {oc_l_right kV_l_right dc_l_right pm_l_right cd_l_right ct_l_right : Value}
    {f_law : Addr} {od_law an_law : Option Addr} {sl_law : Array (Option Value)} {oc_law kV_law dc_law pm_law cd_law ct_law : Value}
    (z_len : PySem.W.nsIn K mainGlobals "len" = some none)
    (z_abs : PySem.W.nsIn K mainGlobals "abs" = some none)
    (z_max : PySem.W.nsIn K mainGlobals "max" = some none)
    (z_min : PySem.W.nsIn K mainGlobals "min" = some none)
    (z_all : PySem.W.nsIn K mainGlobals "all" = some none)
    (z_any : PySem.W.nsIn K mainGlobals "any" = some none)
    (z_isinstance : PySem.W.nsIn K mainGlobals "isinstance" = some none)
    (z_repr : PySem.W.nsIn K mainGlobals "repr" = some none)
    (z_int : PySem.W.nsIn K mainGlobals "int" = some none)
    (z_bool : PySem.W.nsIn K mainGlobals "bool" = some none)
    (z_str : PySem.W.nsIn K mainGlobals "str" = some none)
    (z_tuple : PySem.W.nsIn K mainGlobals "tuple" = some none)
    (z_list : PySem.W.nsIn K mainGlobals "list" = some none)
    (z_dict : PySem.W.nsIn K mainGlobals "dict" = some none)
    (z_range : PySem.W.nsIn K mainGlobals "range" = some none)
    (z_zip : PySem.W.nsIn K mainGlobals "zip" = some none)
    (z_enumerate : PySem.W.nsIn K mainGlobals "enumerate" = some none)
    (z_set : PySem.W.nsIn K mainGlobals "set" = some none)
    (z_sorted : PySem.W.nsIn K mainGlobals "sorted" = some none)
    (z_sum : PySem.W.nsIn K mainGlobals "sum" = some none)
    (g_gcd : PySem.W.nsIn K mainGlobals "gcd" = some (some (.builtin "math.gcd")))
    (g_ONE : PySem.W.nsIn K mainGlobals "ONE" = some (some (.ref T_ONE)))
    (t_ONE : K.lookup T_ONE = some ⟨.type "tuple", td_ONE, .seq #[.int 1 tt1_ONE, .int 1 tt2_ONE] tn_ONE, tsl_ONE⟩)
    (a_l_pot : PySem.W.nsIn K mainGlobals "_law_pot" = some (some (.ref f_l_pot)))
    (l_l_pot : K.lookup f_l_pot = some ⟨oc_l_pot, od_l_pot, .func (PySem.W.fnOf "_law_pot" "_law_pot" (defArgs s_l_pot) (defBody s_l_pot) (defScope s_l_pot) .none kV_l_pot dc_l_pot pm_l_pot an_l_pot cd_l_pot ct_l_pot), sl_l_pot⟩)
    (c_l_pot : PySem.W.codeIn K cd_l_pot "_law_pot" = true)
    (k_l_pot : PySem.W.keepIn K (.ref f_l_pot) = true)
    (a_l_take : PySem.W.nsIn K mainGlobals "_law_take" = some (some (.ref f_l_take)))
    (l_l_take : K.lookup f_l_take = some ⟨oc_l_take, od_l_take, .func (PySem.W.fnOf "_law_take" "_law_take" (defArgs s_l_take) (defBody s_l_take) (defScope s_l_take) .none kV_l_take dc_l_take pm_l_take an_l_take cd_l_take ct_l_take), sl_l_take⟩)
    (c_l_take : PySem.W.codeIn K cd_l_take "_law_take" = true)
    (k_l_take : PySem.W.keepIn K (.ref f_l_take) = true)
    (a_l_ones : PySem.W.nsIn K mainGlobals "_law_ones" = some (some (.ref f_l_ones)))
    (l_l_ones : K.lookup f_l_ones = some ⟨oc_l_ones, od_l_ones, .func (PySem.W.fnOf "_law_ones" "_law_ones" (defArgs s_l_ones) (defBody s_l_ones) (defScope s_l_ones) .none kV_l_ones dc_l_ones pm_l_ones an_l_ones cd_l_ones ct_l_ones), sl_l_ones⟩)
    (c_l_ones : PySem.W.codeIn K cd_l_ones "_law_ones" = true)
    (k_l_ones : PySem.W.keepIn K (.ref f_l_ones) = true)
    (a_l_gcd : PySem.W.nsIn K mainGlobals "_law_gcd" = some (some (.ref f_l_gcd)))
    (l_l_gcd : K.lookup f_l_gcd = some ⟨oc_l_gcd, od_l_gcd, .func (PySem.W.fnOf "_law_gcd" "_law_gcd" (defArgs s_l_gcd) (defBody s_l_gcd) (defScope s_l_gcd) .none kV_l_gcd dc_l_gcd pm_l_gcd an_l_gcd cd_l_gcd ct_l_gcd), sl_l_gcd⟩)
    (c_l_gcd : PySem.W.codeIn K cd_l_gcd "_law_gcd" = true)
    (k_l_gcd : PySem.W.keepIn K (.ref f_l_gcd) = true)
    (a_l_fraction : PySem.W.nsIn K mainGlobals "_law_fraction" = some (some (.ref f_l_fraction)))
    (l_l_fraction : K.lookup f_l_fraction = some ⟨oc_l_fraction, od_l_fraction, .func (PySem.W.fnOf "_law_fraction" "_law_fraction" (defArgs s_l_fraction) (defBody s_l_fraction) (defScope s_l_fraction) .none kV_l_fraction dc_l_fraction pm_l_fraction an_l_fraction cd_l_fraction ct_l_fraction), sl_l_fraction⟩)
    (c_l_fraction : PySem.W.codeIn K cd_l_fraction "_law_fraction" = true)
    (k_l_fraction : PySem.W.keepIn K (.ref f_l_fraction) = true)
    (a_l_sum : PySem.W.nsIn K mainGlobals "_law_sum" = some (some (.ref f_l_sum)))
    (l_l_sum : K.lookup f_l_sum = some ⟨oc_l_sum, od_l_sum, .func (PySem.W.fnOf "_law_sum" "_law_sum" (defArgs s_l_sum) (defBody s_l_sum) (defScope s_l_sum) .none kV_l_sum dc_l_sum pm_l_sum an_l_sum cd_l_sum ct_l_sum), sl_l_sum⟩)
    (c_l_sum : PySem.W.codeIn K cd_l_sum "_law_sum" = true)
    (k_l_sum : PySem.W.keepIn K (.ref f_l_sum) = true)
    (a_l_some : PySem.W.nsIn K mainGlobals "_law_some" = some (some (.ref f_l_some)))
    (l_l_some : K.lookup f_l_some = some ⟨oc_l_some, od_l_some, .func (PySem.W.fnOf "_law_some" "_law_some" (defArgs s_l_some) (defBody s_l_some) (defScope s_l_some) .none kV_l_some dc_l_some pm_l_some an_l_some cd_l_some ct_l_some), sl_l_some⟩)
    (c_l_some : PySem.W.codeIn K cd_l_some "_law_some" = true)
    (k_l_some : PySem.W.keepIn K (.ref f_l_some) = true)
    (a_l_of : PySem.W.nsIn K mainGlobals "_law_of" = some (some (.ref f_l_of)))
    (l_l_of : K.lookup f_l_of = some ⟨oc_l_of, od_l_of, .func (PySem.W.fnOf "_law_of" "_law_of" (defArgs s_l_of) (defBody s_l_of) (defScope s_l_of) .none kV_l_of dc_l_of pm_l_of an_l_of cd_l_of ct_l_of), sl_l_of⟩)
    (c_l_of : PySem.W.codeIn K cd_l_of "_law_of" = true)
    (k_l_of : PySem.W.keepIn K (.ref f_l_of) = true)
    (a_l_drawn_fraction : PySem.W.nsIn K mainGlobals "_law_drawn_fraction" = some (some (.ref f_l_drawn_fraction)))
    (l_l_drawn_fraction : K.lookup f_l_drawn_fraction = some ⟨oc_l_drawn_fraction, od_l_drawn_fraction, .func (PySem.W.fnOf "_law_drawn_fraction" "_law_drawn_fraction" (defArgs s_l_drawn_fraction) (defBody s_l_drawn_fraction) (defScope s_l_drawn_fraction) .none kV_l_drawn_fraction dc_l_drawn_fraction pm_l_drawn_fraction an_l_drawn_fraction cd_l_drawn_fraction ct_l_drawn_fraction), sl_l_drawn_fraction⟩)
    (c_l_drawn_fraction : PySem.W.codeIn K cd_l_drawn_fraction "_law_drawn_fraction" = true)
    (k_l_drawn_fraction : PySem.W.keepIn K (.ref f_l_drawn_fraction) = true)
    (a_l_cells : PySem.W.nsIn K mainGlobals "_law_cells" = some (some (.ref f_l_cells)))
    (l_l_cells : K.lookup f_l_cells = some ⟨oc_l_cells, od_l_cells, .func (PySem.W.fnOf "_law_cells" "_law_cells" (defArgs s_l_cells) (defBody s_l_cells) (defScope s_l_cells) .none kV_l_cells dc_l_cells pm_l_cells an_l_cells cd_l_cells ct_l_cells), sl_l_cells⟩)
    (c_l_cells : PySem.W.codeIn K cd_l_cells "_law_cells" = true)
    (k_l_cells : PySem.W.keepIn K (.ref f_l_cells) = true)
    (a_is_integer : PySem.W.nsIn K mainGlobals "is_integer" = some (some (.ref f_is_integer)))
    (l_is_integer : K.lookup f_is_integer = some ⟨oc_is_integer, od_is_integer, .func (PySem.W.fnOf "is_integer" "is_integer" (defArgs s_is_integer) (defBody s_is_integer) (defScope s_is_integer) .none kV_is_integer dc_is_integer pm_is_integer an_is_integer cd_is_integer ct_is_integer), sl_is_integer⟩)
    (c_is_integer : PySem.W.codeIn K cd_is_integer "is_integer" = true)
    (k_is_integer : PySem.W.keepIn K (.ref f_is_integer) = true)
    (a_is_fraction : PySem.W.nsIn K mainGlobals "is_fraction" = some (some (.ref f_is_fraction)))
    (l_is_fraction : K.lookup f_is_fraction = some ⟨oc_is_fraction, od_is_fraction, .func (PySem.W.fnOf "is_fraction" "is_fraction" (defArgs s_is_fraction) (defBody s_is_fraction) (defScope s_is_fraction) .none kV_is_fraction dc_is_fraction pm_is_fraction an_is_fraction cd_is_fraction ct_is_fraction), sl_is_fraction⟩)
    (c_is_fraction : PySem.W.codeIn K cd_is_fraction "is_fraction" = true)
    (k_is_fraction : PySem.W.keepIn K (.ref f_is_fraction) = true)
    (a_are_fractions : PySem.W.nsIn K mainGlobals "are_fractions" = some (some (.ref f_are_fractions)))
    (l_are_fractions : K.lookup f_are_fractions = some ⟨oc_are_fractions, od_are_fractions, .func (PySem.W.fnOf "are_fractions" "are_fractions" (defArgs s_are_fractions) (defBody s_are_fractions) (defScope s_are_fractions) .none kV_are_fractions dc_are_fractions pm_are_fractions an_are_fractions cd_are_fractions ct_are_fractions), sl_are_fractions⟩)
    (c_are_fractions : PySem.W.codeIn K cd_are_fractions "are_fractions" = true)
    (k_are_fractions : PySem.W.keepIn K (.ref f_are_fractions) = true)
    (a_cut : PySem.W.nsIn K mainGlobals "cut" = some (some (.ref f_cut)))
    (l_cut : K.lookup f_cut = some ⟨oc_cut, od_cut, .func (PySem.W.fnOf "cut" "cut" (defArgs s_cut) (defBody s_cut) (defScope s_cut) .none kV_cut dc_cut pm_cut an_cut cd_cut ct_cut), sl_cut⟩)
    (c_cut : PySem.W.codeIn K cd_cut "cut" = true)
    (k_cut : PySem.W.keepIn K (.ref f_cut) = true)
    (a_fraction : PySem.W.nsIn K mainGlobals "fraction" = some (some (.ref f_fraction)))
    (l_fraction : K.lookup f_fraction = some ⟨oc_fraction, od_fraction, .func (PySem.W.fnOf "fraction" "fraction" (defArgs s_fraction) (defBody s_fraction) (defScope s_fraction) (.ref D_fraction) kV_fraction dc_fraction pm_fraction an_fraction cd_fraction ct_fraction), sl_fraction⟩)
    (c_fraction : PySem.W.codeIn K cd_fraction "fraction" = true)
    (k_fraction : PySem.W.keepIn K (.ref f_fraction) = true)
    (d_fraction : K.lookup D_fraction = some ⟨oD_fraction, dD_fraction, .seq #[.int 1 tk_fraction] nD_fraction, sD_fraction⟩)
    (a_total : PySem.W.nsIn K mainGlobals "total" = some (some (.ref f_total)))
    (l_total : K.lookup f_total = some ⟨oc_total, od_total, .func (PySem.W.fnOf "total" "total" (defArgs s_total) (defBody s_total) (defScope s_total) (.ref D_total) kV_total dc_total pm_total an_total cd_total ct_total), sl_total⟩)
    (c_total : PySem.W.codeIn K cd_total "total" = true)
    (k_total : PySem.W.keepIn K (.ref f_total) = true)
    (d_total : K.lookup D_total = some ⟨oD_total, dD_total, .seq #[.none] nD_total, sD_total⟩)
    (a_l_one_right : PySem.W.nsIn K mainGlobals "_law_one_right" = some (some (.ref f_l_one_right)))
    (l_l_one_right : K.lookup f_l_one_right = some ⟨oc_l_one_right, od_l_one_right, .func (PySem.W.fnOf "_law_one_right" "_law_one_right" (defArgs s_l_one_right) (defBody s_l_one_right) (defScope s_l_one_right) .none kV_l_one_right dc_l_one_right pm_l_one_right an_l_one_right cd_l_one_right ct_l_one_right), sl_l_one_right⟩)
    (c_l_one_right : PySem.W.codeIn K cd_l_one_right "_law_one_right" = true)
    (k_l_one_right : PySem.W.keepIn K (.ref f_l_one_right) = true)
    (a_l_right : PySem.W.nsIn K mainGlobals "_law_right" = some (some (.ref f_l_right)))
    (l_l_right : K.lookup f_l_right = some ⟨oc_l_right, od_l_right, .func (PySem.W.fnOf "_law_right" "_law_right" (defArgs s_l_right) (defBody s_l_right) (defScope s_l_right) .none kV_l_right dc_l_right pm_l_right an_l_right cd_l_right ct_l_right), sl_l_right⟩)
    (c_l_right : PySem.W.codeIn K cd_l_right "_law_right" = true)
    (k_l_right : PySem.W.keepIn K (.ref f_l_right) = true)
    (a_law : PySem.W.nsIn K mainGlobals "law" = some (some (.ref f_law)))
    (l_law : K.lookup f_law = some ⟨oc_law, od_law, .func (PySem.W.fnOf "law" "law" (defArgs s_law) (defBody s_law) (defScope s_law) .none kV_law dc_law pm_law an_law cd_law ct_law), sl_law⟩)
    (c_law : PySem.W.codeIn K cd_law "law" = true)
    (k_law : PySem.W.keepIn K (.ref f_law) = true) :
    ∃ fd : FuncData, (∀ (s : Shared) (v : Value), BindsTo s fd ⟨[v], []⟩ [("_law_script", v)]) ∧ ∀ base : Heap, K.In base → base.Ns mainGlobals mg → FnG l.prog w K mg base CX0 7 fa fd ["_law_script"] (spD K fs_law) := by
  have e := hfa.symm.trans (PySem.W.mg_of X G a_law)
  cases e
  refine ⟨PySem.W.fnOf "law" "law" (defArgs s_law) (defBody s_law) (defScope s_law) .none kV_law dc_law pm_law an_law cd_law ct_law, fun s v => .of_eq rfl, fun base _ _ => ?_⟩
  have B : Bt mg := ⟨PySem.W.mg_none_of X G z_len, PySem.W.mg_none_of X G z_abs, PySem.W.mg_none_of X G z_max, PySem.W.mg_none_of X G z_min, PySem.W.mg_none_of X G z_all, PySem.W.mg_none_of X G z_any, PySem.W.mg_none_of X G z_isinstance, PySem.W.mg_none_of X G z_repr, PySem.W.mg_none_of X G z_int, PySem.W.mg_none_of X G z_bool, PySem.W.mg_none_of X G z_str, PySem.W.mg_none_of X G z_tuple, PySem.W.mg_none_of X G z_list, PySem.W.mg_none_of X G z_dict, PySem.W.mg_none_of X G z_range, PySem.W.mg_none_of X G z_zip, PySem.W.mg_none_of X G z_enumerate, PySem.W.mg_none_of X G z_set, PySem.W.mg_none_of X G z_sorted, PySem.W.mg_none_of X G z_sum⟩
  have m_gcd : mg "gcd" = some (.builtin "math.gcd") := PySem.W.mg_of X G g_gcd
  have m_ONE := PySem.W.mg_of X G g_ONE
  have d_ONE : ∀ G, Is K G (.ref T_ONE) (frq 1) := fun G => .tup (vs := [.int 1, .int 1]) (.inr ⟨_, _, _, t_ONE, rfl, rfl, (show 2 ≤ sizeLine by decide), .cons ⟨_, rfl⟩ (.cons ⟨_, rfl⟩ .nil)⟩) (.cons (.int 1) (.cons (.int 1) .nil))
  have F_l_pot := fun_mk (st := s_l_pot) l_l_pot c_l_pot k_l_pot
  have G_l_pot : FnG l.prog w K mg base CX0 1 f_l_pot _ p_l_pot (spN K fn_pot) := ok_pot B F_l_pot
  have cl_pot_ : Cal l.prog w K mg base CX0 1 "_law_pot" p_l_pot [] (spN K fn_pot) := ⟨_, _, _, G_l_pot, PySem.W.mg_of X G a_l_pot, F_l_pot.kp, F_l_pot.binds (ps := p_l_pot) (fun _ _ _ _ _ _ us hl => match us, hl with | [_, _], _ => rfl), .nil⟩
  have F_l_take := fun_mk (st := s_l_take) l_l_take c_l_take k_l_take
  have G_l_take : FnG l.prog w K mg base CX0 1 f_l_take _ p_l_take (spP K fp_take) := ok_take B F_l_take
  have cl_take_ : Cal l.prog w K mg base CX0 1 "_law_take" p_l_take [] (spP K fp_take) := ⟨_, _, _, G_l_take, PySem.W.mg_of X G a_l_take, F_l_take.kp, F_l_take.binds (ps := p_l_take) (fun _ _ _ _ _ _ us hl => match us, hl with | [_, _], _ => rfl), .nil⟩
  have F_l_ones := fun_mk (st := s_l_ones) l_l_ones c_l_ones k_l_ones
  have G_l_ones : FnG l.prog w K mg base CX0 1 f_l_ones _ p_l_ones (spD K fs_ones) := ok_ones B F_l_ones
  have cl_ones_ : Cal l.prog w K mg base CX0 1 "_law_ones" p_l_ones [] (spD K fs_ones) := ⟨_, _, _, G_l_ones, PySem.W.mg_of X G a_l_ones, F_l_ones.kp, F_l_ones.binds (ps := p_l_ones) (fun _ _ _ _ _ _ us hl => match us, hl with | [_], _ => rfl), .nil⟩
  have F_l_gcd := fun_mk (st := s_l_gcd) l_l_gcd c_l_gcd k_l_gcd
  have G_l_gcd : FnG l.prog w K mg base CX0 1 f_l_gcd _ p_l_gcd (spD K fs_gcd) := ok_gcd B F_l_gcd
  have cl_gcd_ : Cal l.prog w K mg base CX0 1 "_law_gcd" p_l_gcd [] (spD K fs_gcd) := ⟨_, _, _, G_l_gcd, PySem.W.mg_of X G a_l_gcd, F_l_gcd.kp, F_l_gcd.binds (ps := p_l_gcd) (fun _ _ _ _ _ _ us hl => match us, hl with | [_], _ => rfl), .nil⟩
  have F_l_fraction := fun_mk (st := s_l_fraction) l_l_fraction c_l_fraction k_l_fraction
  have G_l_fraction : FnG l.prog w K mg base CX0 2 f_l_fraction _ p_l_fraction (spD K fs_lfraction) := ok_lfraction B cl_gcd_ F_l_fraction
  have cl_fraction_ : Cal l.prog w K mg base CX0 2 "_law_fraction" p_l_fraction [] (spD K fs_lfraction) := ⟨_, _, _, G_l_fraction, PySem.W.mg_of X G a_l_fraction, F_l_fraction.kp, F_l_fraction.binds (ps := p_l_fraction) (fun _ _ _ _ _ _ us hl => match us, hl with | [_, _], _ => rfl), .nil⟩
  have F_l_sum := fun_mk (st := s_l_sum) l_l_sum c_l_sum k_l_sum
  have G_l_sum : FnG l.prog w K mg base CX0 3 f_l_sum _ p_l_sum (spD K fs_lsum) := ok_lsum B cl_fraction_ F_l_sum
  have cl_sum_ : Cal l.prog w K mg base CX0 3 "_law_sum" p_l_sum [] (spD K fs_lsum) := ⟨_, _, _, G_l_sum, PySem.W.mg_of X G a_l_sum, F_l_sum.kp, F_l_sum.binds (ps := p_l_sum) (fun _ _ _ _ _ _ us hl => match us, hl with | [_, _], _ => rfl), .nil⟩
  have F_l_some := fun_mk (st := s_l_some) l_l_some c_l_some k_l_some
  have G_l_some : FnG l.prog w K mg base CX0 2 f_l_some _ p_l_some (spP K fp_some) := ok_some B cl_take_ F_l_some
  have cl_some_ : Cal l.prog w K mg base CX0 2 "_law_some" p_l_some [] (spP K fp_some) := ⟨_, _, _, G_l_some, PySem.W.mg_of X G a_l_some, F_l_some.kp, F_l_some.binds (ps := p_l_some) (fun _ _ _ _ _ _ us hl => match us, hl with | [_, _, _], _ => rfl), .nil⟩
  have F_l_of := fun_mk (st := s_l_of) l_l_of c_l_of k_l_of
  have G_l_of : FnG l.prog w K mg base CX0 2 f_l_of _ p_l_of (spP K fp_of) := ok_of B cl_take_ F_l_of
  have cl_of_ : Cal l.prog w K mg base CX0 2 "_law_of" p_l_of [] (spP K fp_of) := ⟨_, _, _, G_l_of, PySem.W.mg_of X G a_l_of, F_l_of.kp, F_l_of.binds (ps := p_l_of) (fun _ _ _ _ _ _ us hl => match us, hl with | [_, _], _ => rfl), .nil⟩
  have F_l_drawn_fraction := fun_mk (st := s_l_drawn_fraction) l_l_drawn_fraction c_l_drawn_fraction k_l_drawn_fraction
  have G_l_drawn_fraction : FnG l.prog w K mg base CX0 3 f_l_drawn_fraction _ p_l_drawn_fraction (spP K fp_drawn) := ok_drawn B cl_take_ cl_of_ cl_fraction_ F_l_drawn_fraction
  have cl_drawn_fraction_ : Cal l.prog w K mg base CX0 3 "_law_drawn_fraction" p_l_drawn_fraction [] (spP K fp_drawn) := ⟨_, _, _, G_l_drawn_fraction, PySem.W.mg_of X G a_l_drawn_fraction, F_l_drawn_fraction.kp, F_l_drawn_fraction.binds (ps := p_l_drawn_fraction) (fun _ _ _ _ _ _ us hl => match us, hl with | [_], _ => rfl), .nil⟩
  have F_l_cells := fun_mk (st := s_l_cells) l_l_cells c_l_cells k_l_cells
  have G_l_cells : FnG l.prog w K mg base CX0 1 f_l_cells _ p_l_cells (spD K fs_cells) := ok_cells B F_l_cells
  have cl_cells_ : Cal l.prog w K mg base CX0 1 "_law_cells" p_l_cells [] (spD K fs_cells) := ⟨_, _, _, G_l_cells, PySem.W.mg_of X G a_l_cells, F_l_cells.kp, F_l_cells.binds (ps := p_l_cells) (fun _ _ _ _ _ _ us hl => match us, hl with | [_, _], _ => rfl), .nil⟩
  have F_is_integer := fun_mk (st := s_is_integer) l_is_integer c_is_integer k_is_integer
  have G_is_integer : FnG l.prog w K mg base CX0 1 f_is_integer _ p_is_integer (spD K fs_is_integer) := ok_is_integer B F_is_integer
  have cis_integer_ : Cal l.prog w K mg base CX0 1 "is_integer" p_is_integer [] (spD K fs_is_integer) := ⟨_, _, _, G_is_integer, PySem.W.mg_of X G a_is_integer, F_is_integer.kp, F_is_integer.binds (ps := p_is_integer) (fun _ _ _ _ _ _ us hl => match us, hl with | [_], _ => rfl), .nil⟩
  have F_is_fraction := fun_mk (st := s_is_fraction) l_is_fraction c_is_fraction k_is_fraction
  have G_is_fraction : FnG l.prog w K mg base CX0 2 f_is_fraction _ p_is_fraction (spD K fs_is_fraction) := ok_is_fraction B m_gcd F_is_fraction
  have cis_fraction_ : Cal l.prog w K mg base CX0 2 "is_fraction" p_is_fraction [] (spD K fs_is_fraction) := ⟨_, _, _, G_is_fraction, PySem.W.mg_of X G a_is_fraction, F_is_fraction.kp, F_is_fraction.binds (ps := p_is_fraction) (fun _ _ _ _ _ _ us hl => match us, hl with | [_], _ => rfl), .nil⟩
  have F_are_fractions := fun_mk (st := s_are_fractions) l_are_fractions c_are_fractions k_are_fractions
  have G_are_fractions : FnG l.prog w K mg base CX0 3 f_are_fractions _ p_are_fractions (spD K fs_are) := ok_are B cis_fraction_ F_are_fractions
  have care_fractions_ : Cal l.prog w K mg base CX0 3 "are_fractions" p_are_fractions [] (spD K fs_are) := ⟨_, _, _, G_are_fractions, PySem.W.mg_of X G a_are_fractions, F_are_fractions.kp, F_are_fractions.binds (ps := p_are_fractions) (fun _ _ _ _ _ _ us hl => match us, hl with | [_], _ => rfl), .nil⟩
  have F_cut := fun_mk (st := s_cut) l_cut c_cut k_cut
  have G_cut : FnG l.prog w K mg base CX0 1 f_cut _ p_cut (spD K fs_cut) := ok_cut B m_gcd F_cut
  have ccut_ : Cal l.prog w K mg base CX0 1 "cut" p_cut [] (spD K fs_cut) := ⟨_, _, _, G_cut, PySem.W.mg_of X G a_cut, F_cut.kp, F_cut.binds (ps := p_cut) (fun _ _ _ _ _ _ us hl => match us, hl with | [_, _], _ => rfl), .nil⟩
  have F_fraction : FunD K "fraction" "fraction" (defArgs s_fraction) (defBody s_fraction) (defScope s_fraction) [.int 1] [] f_fraction _ := ⟨⟨_, _, _, _, _, _, _, _, _, _, rfl, l_fraction, c_fraction, .inr ⟨by simp, D_fraction, _, [.int 1 tk_fraction], _, rfl, d_fraction, rfl, .cons ⟨_, rfl⟩ .nil⟩, .inl rfl⟩, k_fraction⟩
  have G_fraction : FnG l.prog w K mg base CX0 2 f_fraction _ p_fraction (spD K fs_pfraction) := ok_pfraction B ccut_ cis_integer_ F_fraction
  have cfraction_1 : Cal l.prog w K mg base CX0 2 "fraction" p_fraction [.int 1] (spD K fs_pfraction) := by
      obtain ⟨ds, h1, h2⟩ := F_fraction.binds1 (ps := p_fraction) 1 0 (by simp) rfl (fun T kV doc pm an cdv ct us its hl hi => match us, hl, its, hi with | [_], _, [_], _ => ⟨_, rfl, rfl⟩)
      exact ⟨_, _, ds, G_fraction, PySem.W.mg_of X G a_fraction, F_fraction.kp, h2, h1⟩
  have cfraction_2 : Cal l.prog w K mg base CX0 2 "fraction" p_fraction [] (spD K fs_pfraction) := by
      obtain ⟨ds, h1, h2⟩ := F_fraction.binds1 (ps := p_fraction) 2 1 (by simp) rfl (fun T kV doc pm an cdv ct us its hl hi => match us, hl, its, hi with | [_, _], _, [_], _ => ⟨_, rfl, rfl⟩)
      exact ⟨_, _, ds, G_fraction, PySem.W.mg_of X G a_fraction, F_fraction.kp, h2, h1⟩
  have F_total : FunD K "total" "total" (defArgs s_total) (defBody s_total) (defScope s_total) [.non] [] f_total _ := ⟨⟨_, _, _, _, _, _, _, _, _, _, rfl, l_total, c_total, .inr ⟨by simp, D_total, _, [.none], _, rfl, d_total, rfl, .cons rfl .nil⟩, .inl rfl⟩, k_total⟩
  have G_total : FnG l.prog w K mg base CX0 4 f_total _ p_total (spD K fs_total) := ok_total (v_ONE := .ref T_ONE) B m_ONE rfl d_ONE care_fractions_ ccut_ F_total
  have ctotal_1 : Cal l.prog w K mg base CX0 4 "total" p_total [.non] (spD K fs_total) := by
      obtain ⟨ds, h1, h2⟩ := F_total.binds1 (ps := p_total) 1 0 (by simp) rfl (fun T kV doc pm an cdv ct us its hl hi => match us, hl, its, hi with | [_], _, [_], _ => ⟨_, rfl, rfl⟩)
      exact ⟨_, _, ds, G_total, PySem.W.mg_of X G a_total, F_total.kp, h2, h1⟩
  have ctotal_2 : Cal l.prog w K mg base CX0 4 "total" p_total [] (spD K fs_total) := by
      obtain ⟨ds, h1, h2⟩ := F_total.binds1 (ps := p_total) 2 1 (by simp) rfl (fun T kV doc pm an cdv ct us its hl hi => match us, hl, its, hi with | [_, _], _, [_], _ => ⟨_, rfl, rfl⟩)
      exact ⟨_, _, ds, G_total, PySem.W.mg_of X G a_total, F_total.kp, h2, h1⟩
  have F_l_one_right := fun_mk (st := s_l_one_right) l_l_one_right c_l_one_right k_l_one_right
  have G_l_one_right : FnG l.prog w K mg base CX0 5 f_l_one_right _ p_l_one_right (spP K fp_one) := ok_one B ctotal_2 ctotal_1 cl_ones_ cl_sum_ cl_some_ cl_gcd_ cfraction_2 F_l_one_right
  have cl_one_right_ : Cal l.prog w K mg base CX0 5 "_law_one_right" p_l_one_right [] (spP K fp_one) := ⟨_, _, _, G_l_one_right, PySem.W.mg_of X G a_l_one_right, F_l_one_right.kp, F_l_one_right.binds (ps := p_l_one_right) (fun _ _ _ _ _ _ us hl => match us, hl with | [_, _, _], _ => rfl), .nil⟩
  have F_l_right := fun_mk (st := s_l_right) l_l_right c_l_right k_l_right
  have G_l_right : FnG l.prog w K mg base CX0 6 f_l_right _ p_l_right (spP K fp_right) := ok_right B ctotal_2 ctotal_1 cl_take_ cl_of_ cl_fraction_ cl_drawn_fraction_ cl_one_right_ F_l_right
  have cl_right_ : Cal l.prog w K mg base CX0 6 "_law_right" p_l_right [] (spP K fp_right) := ⟨_, _, _, G_l_right, PySem.W.mg_of X G a_l_right, F_l_right.kp, F_l_right.binds (ps := p_l_right) (fun _ _ _ _ _ _ us hl => match us, hl with | [_], _ => rfl), .nil⟩
  have F_law := fun_mk (st := s_law) l_law c_law k_law
  have G_law : FnG l.prog w K mg base CX0 7 fa _ p_law (spD K fs_law) := ok_law B cl_cells_ cl_pot_ cl_right_ F_law
  exact G_law
end K02
open PySem PySem.W PyProof.Rows
set_option maxHeartbeats 0 in
theorem PySem.Challenge.cw_tiesums_k02_whole_sums_of_fractions_holds : PySem.Challenge.rw_tiesums_k02_whole_sums_of_fractions.Holds := by
  w_on; o_law; k_head; (case hw => w_witness2)
  k_fill
  letI : DL.TabT := ⟨[]⟩
  refine DL.walk_g (l := PySem.Challenge.rw_tiesums_k02_whole_sums_of_fractions) (n := 63) (k := 7) (x := "_law_script") (CX := fun _ => L2.CX0) (sp := fun w => DL.spD _ K02.fs_law) rfl (by decide) rfl ⟨rfl, by decide, by decide⟩ (fun w h Y => PySem.W.kIn_of Y) ?F (fun _ H a ns hl _ hS => ⟨H, [.scr ns], fun d => d = .bl true, fun _ _ => False, L2.Same.refl H, .cons (.scr hS) .nil, ⟨ns, rfl, rfl⟩, fun v d G' H' e i r => by (subst r; cases i; rfl), DL.Flies.none⟩) (fun _ _ _ _ _ h => h)
  case F =>
    intro w mg fa h KX G hmg
    refine' K02.all_mk KX G hmg ?z_len ?z_abs ?z_max ?z_min ?z_all ?z_any ?z_isinstance ?z_repr ?z_int ?z_bool ?z_str ?z_tuple ?z_list ?z_dict ?z_range ?z_zip ?z_enumerate ?z_set ?z_sorted ?z_sum ?g_gcd ?g_ONE ?t_ONE ?a_l_pot ?l_l_pot ?c_l_pot ?k_l_pot ?a_l_take ?l_l_take ?c_l_take ?k_l_take ?a_l_ones ?l_l_ones ?c_l_ones ?k_l_ones ?a_l_gcd ?l_l_gcd ?c_l_gcd ?k_l_gcd ?a_l_fraction ?l_l_fraction ?c_l_fraction ?k_l_fraction ?a_l_sum ?l_l_sum ?c_l_sum ?k_l_sum ?a_l_some ?l_l_some ?c_l_some ?k_l_some ?a_l_of ?l_l_of ?c_l_of ?k_l_of ?a_l_drawn_fraction ?l_l_drawn_fraction ?c_l_drawn_fraction ?k_l_drawn_fraction ?a_l_cells ?l_l_cells ?c_l_cells ?k_l_cells ?a_is_integer ?l_is_integer ?c_is_integer ?k_is_integer ?a_is_fraction ?l_is_fraction ?c_is_fraction ?k_is_fraction ?a_are_fractions ?l_are_fractions ?c_are_fractions ?k_are_fractions ?a_cut ?l_cut ?c_cut ?k_cut ?a_fraction ?l_fraction ?c_fraction ?k_fraction ?d_fraction ?a_total ?l_total ?c_total ?k_total ?d_total ?a_l_one_right ?l_l_one_right ?c_l_one_right ?k_l_one_right ?a_l_right ?l_l_right ?c_l_right ?k_l_right ?a_law ?l_law ?c_law ?k_law
    (case z_len => k_is); (case z_abs => k_is); (case z_max => k_is); (case z_min => k_is); (case z_all => k_is); (case z_any => k_is); (case z_isinstance => k_is); (case z_repr => k_is); (case z_int => k_is); (case z_bool => k_is); (case z_str => k_is); (case z_tuple => k_is); (case z_list => k_is); (case z_dict => k_is); (case z_range => k_is); (case z_zip => k_is); (case z_enumerate => k_is); (case z_set => k_is); (case z_sorted => k_is); (case z_sum => k_is); (case g_gcd => k_is); (case g_ONE => k_is); (case t_ONE => k_is); (case a_l_pot => k_is); (case l_l_pot => k_is); (case c_l_pot => k_is); (case k_l_pot => k_is); (case a_l_take => k_is); (case l_l_take => k_is); (case c_l_take => k_is); (case k_l_take => k_is); (case a_l_ones => k_is); (case l_l_ones => k_is); (case c_l_ones => k_is); (case k_l_ones => k_is); (case a_l_gcd => k_is); (case l_l_gcd => k_is); (case c_l_gcd => k_is); (case k_l_gcd => k_is); (case a_l_fraction => k_is); (case l_l_fraction => k_is); (case c_l_fraction => k_is); (case k_l_fraction => k_is); (case a_l_sum => k_is); (case l_l_sum => k_is); (case c_l_sum => k_is); (case k_l_sum => k_is); (case a_l_some => k_is); (case l_l_some => k_is); (case c_l_some => k_is); (case k_l_some => k_is); (case a_l_of => k_is); (case l_l_of => k_is); (case c_l_of => k_is); (case k_l_of => k_is); (case a_l_drawn_fraction => k_is); (case l_l_drawn_fraction => k_is); (case c_l_drawn_fraction => k_is); (case k_l_drawn_fraction => k_is); (case a_l_cells => k_is); (case l_l_cells => k_is); (case c_l_cells => k_is); (case k_l_cells => k_is); (case a_is_integer => k_is); (case l_is_integer => k_is); (case c_is_integer => k_is); (case k_is_integer => k_is); (case a_is_fraction => k_is); (case l_is_fraction => k_is); (case c_is_fraction => k_is); (case k_is_fraction => k_is); (case a_are_fractions => k_is); (case l_are_fractions => k_is); (case c_are_fractions => k_is); (case k_are_fractions => k_is); (case a_cut => k_is); (case l_cut => k_is); (case c_cut => k_is); (case k_cut => k_is); (case a_fraction => k_is); (case l_fraction => k_is); (case c_fraction => k_is); (case k_fraction => k_is); (case d_fraction => k_is); (case a_total => k_is); (case l_total => k_is); (case c_total => k_is); (case k_total => k_is); (case d_total => k_is); (case a_l_one_right => k_is); (case l_l_one_right => k_is); (case c_l_one_right => k_is); (case k_l_one_right => k_is); (case a_l_right => k_is); (case l_l_right => k_is); (case c_l_right => k_is); (case k_l_right => k_is); (case a_law => k_is); (case l_law => k_is); (case c_law => k_is); (case k_law => k_is)
