import PyProof.Rows.All
import Wide.All
import OpenK.AllK
import Wide.FinOn
import HandS.ForMost
import HandS.IsInst
import HandS.Gcd
import HandS.Wide
import HandS.Zip
import HandS.TupMul
import HandS.TupAny
import HandS.Star
import HandS.Deep
import PyProof.P3In
import PyProof.Rows.InDataRows
import HandS.TupLe
import HandS.SortInts
import HandS.Style
import KE.GoesMore
import PyProof.EnumMake
import HandS.Set
import PyProof.Rows.SetFrom
import HandS.Strs
import HandS.Conv
import PyProof.ReprRoads
import HandS.TupSets
import HandS.Text
import HandS.ExcInit
import HandS.ExcOwn
import HandS.WordsExc
import HandS.Dict
import KE.GoesZip
import KE.GoesEnum
import KE.DataAny
import PyProof.StrBlock2
import HandS.Rev
import KE.KeyNested
import HandS.TryOnly
import PyProof.ReprText
import HandS.TryMany
import HandS.Lambda
import HandS.EndTab
import KE.KStateDown
import KE.KNestM
import PySem.Challenge.RW_rowalone_k03_whole_simplest_fractions
set_option Elab.async false
set_option linter.all false
set_option maxRecDepth 100000
set_option maxHeartbeats 4000000
namespace DL
open PySem PySem.Spec PyProof.Rows L2

structure Wd where
  K : PySem.W.Frag
  kc : List Str → Addr

mutual
def Im (W : Wd) (N : Addr → Prop) (H : Hp) : PyData → V → Prop
  | .none, v => v = .non
  | .bool b, v => v = .bl b
  | .int i, v => v = .int i
  | .str x, v => v = .str x
  | .list ds, v => ∃ a xs, v = .ref a ∧ H a = some (.lst xs) ∧ ¬ N a ∧ ImA W N H ds xs
  | .tuple ds, v => ∃ a xs, v = .ref a ∧ SqT W.K H a xs ∧ ImA W N H ds xs
  | .dict kvs, v => (∃ a, v = .ref a ∧ ¬ N a ∧ ((kvs = [] ∧ H a = some (.dK [])) ∨ (kvs ≠ [] ∧ ∃ dx fs, H a = some (.ins (W.kc (fs.map (·.1))) dx fs) ∧ ImF W N H kvs fs))) ∨
    ∃ a o xs, v = .ref a ∧ H a = some (.frz o (.tup xs)) ∧ o.cls = .type "tuple" ∧ o.dict = none ∧ ImM W N H kvs (.ref a)
def ImA (W : Wd) (N : Addr → Prop) (H : Hp) : List PyData → List V → Prop
  | [], vs => vs = []
  | d :: ds, vs => ∃ v r, vs = v :: r ∧ Im W N H d v ∧ ImA W N H ds r
def ImF (W : Wd) (N : Addr → Prop) (H : Hp) : List (PyData × PyData) → List (Str × V) → Prop
  | [], fs => fs = []
  | (k, d) :: ks, fs => ∃ x v r, fs = (x, v) :: r ∧ k = .str x ∧ Im W N H d v ∧ ImF W N H ks r
/-- a mark: a tuple whose one object is known -/
def ImM (W : Wd) (N : Addr → Prop) (H : Hp) : List (PyData × PyData) → V → Prop
  | [], _ => False
  | (k, d) :: ks, v => k = .none ∧ ks = [] ∧ Im W N H d v
end
def markD (d : PyData) : PyData := .dict [(.none, d)]

/-- all objects but those of M stand; tuples stand -/
structure Keep (M : Addr → Prop) (H H' : Hp) : Prop where
  ob : ∀ a o, H a = some o → ¬ M a → H' a = some o
  tp : ∀ a xs, H a = some (.tup xs) → H' a = some (.tup xs)
  fz : ∀ a o u, H a = some (.frz o u) → H' a = some (.frz o u)
theorem Keep.refl {M : Addr → Prop} (H : Hp) : Keep M H H := ⟨fun _ _ h _ => h, fun _ _ h => h, fun _ _ _ h => h⟩
theorem Keep.trans {M : Addr → Prop} {H H1 H2 : Hp} (a : Keep M H H1) (b : Keep M H1 H2) : Keep M H H2 :=
  ⟨fun c o h n => b.ob c o (a.ob c o h n) n, fun c xs h => b.tp c xs (a.tp c xs h), fun c o u h => b.fz c o u (a.fz c o u h)⟩
theorem Keep.mono {M M' : Addr → Prop} {H H' : Hp} (k : Keep M H H') (h : ∀ a, M a → M' a) : Keep M' H H' := ⟨fun a o e n => k.ob a o e fun z => n (h a z), k.tp, k.fz⟩
theorem Keep.new {M : Addr → Prop} {H : Hp} {p : Addr} {o : HO} (h : H p = none) : Keep M H (upd H p o) :=
  ⟨fun a u e _ => by rw [upd_ne (ne_of_none e h)]; exact e, fun a u e => by rw [upd_ne (ne_of_none e h)]; exact e, fun a u w e => by rw [upd_ne (ne_of_none e h)]; exact e⟩
theorem Keep.set {M : Addr → Prop} {H : Hp} {p : Addr} {o : HO} {xs : List V} (h : H p = some (.lst xs)) (m : M p) : Keep M H (upd H p o) :=
  ⟨fun a u e n => by rw [upd_ne (show a ≠ p from fun z => n (by rw [z]; exact m))]; exact e, fun a u e => by rw [upd_ne (fun z => by rw [z, h] at e; cases e)]; exact e,
   fun a u w e => by rw [upd_ne (fun z => by rw [z, h] at e; cases e)]; exact e⟩
theorem Keep.rd {M : Addr → Prop} {H H' : Hp} (k : Keep M H H') {a : Addr} {u : HO} (h : Rd H a u) (n : ¬ M a) : Rd H' a u := by
  rcases h with h | ⟨o, h⟩
  · exact .inl (k.ob a _ h n)
  · exact .inr ⟨o, k.fz a _ _ h⟩
theorem Keep.sqt {M : Addr → Prop} {K : PySem.W.Frag} {H H' : Hp} (k : Keep M H H') {a : Addr} {xs : List V} (h : SqT K H a xs) : SqT K H' a xs := by
  rcases h with (h | ⟨o, h⟩) | h
  · exact .inl (.inl (k.tp a _ h))
  · exact .inl (.inr ⟨o, k.fz a _ _ h⟩)
  · exact .inr h
section
variable {W : Wd} {N N' : Addr → Prop} {H H' : Hp}
mutual
theorem Im.keep (k : Keep N H H') : ∀ (d : PyData) (v : V), Im W N H d v → Im W N H' d v
  | .none, _, h => h
  | .bool _, _, h => h
  | .int _, _, h => h
  | .str _, _, h => h
  | .list ds, v, h => by
    obtain ⟨a, xs, e, r, n, q⟩ := h
    exact ⟨a, xs, e, k.ob a _ r n, n, ImA.keep k ds xs q⟩
  | .tuple ds, v, h => by
    obtain ⟨a, xs, e, r, q⟩ := h
    exact ⟨a, xs, e, k.sqt r, ImA.keep k ds xs q⟩
  | .dict ks, v, h => by
    rcases h with ⟨a, e, n, q⟩ | ⟨a, o, xs, e, r, c1, c2, q⟩
    · refine .inl ⟨a, e, n, q.elim (fun q => .inl ⟨q.1, k.ob a _ q.2 n⟩) fun q => ?_⟩
      obtain ⟨z, dx, fs, r, q⟩ := q
      exact .inr ⟨z, dx, fs, k.ob a _ r n, ImF.keep k ks fs q⟩
    · exact .inr ⟨a, o, xs, e, k.fz a _ _ r, c1, c2, ImM.keep k ks _ q⟩
theorem ImA.keep (k : Keep N H H') : ∀ (ds : List PyData) (vs : List V), ImA W N H ds vs → ImA W N H' ds vs
  | [], _, h => h
  | d :: ds, _, h => by
    obtain ⟨v, r, e, q1, q2⟩ := h
    exact ⟨v, r, e, Im.keep k d v q1, ImA.keep k ds r q2⟩
theorem ImF.keep (k : Keep N H H') : ∀ (ds : List (PyData × PyData)) (vs : List (Str × V)), ImF W N H ds vs → ImF W N H' ds vs
  | [], _, h => h
  | (_, d) :: ds, _, h => by
    obtain ⟨x, v, r, e, e2, q1, q2⟩ := h
    exact ⟨x, v, r, e, e2, Im.keep k d v q1, ImF.keep k ds r q2⟩
theorem ImM.keep (k : Keep N H H') : ∀ (ds : List (PyData × PyData)) (v : V), ImM W N H ds v → ImM W N H' ds v
  | [], _, h => h
  | (_, d) :: ds, v, h => by
    obtain ⟨e, e2, q⟩ := h
    exact ⟨e, e2, Im.keep k d v q⟩
end
mutual
theorem Im.avoid (f : ∀ a o, H a = some o → N' a → N a) : ∀ (d : PyData) (v : V), Im W N H d v → Im W N' H d v
  | .none, _, h => h
  | .bool _, _, h => h
  | .int _, _, h => h
  | .str _, _, h => h
  | .list ds, v, h => by
    obtain ⟨a, xs, e, r, n, q⟩ := h
    exact ⟨a, xs, e, r, fun z => n (f a _ r z), ImA.avoid f ds xs q⟩
  | .tuple ds, v, h => by
    obtain ⟨a, xs, e, r, q⟩ := h
    exact ⟨a, xs, e, r, ImA.avoid f ds xs q⟩
  | .dict ks, v, h => by
    rcases h with ⟨a, e, n, q⟩ | ⟨a, o, xs, e, r, c1, c2, q⟩
    · rcases q with ⟨z, r⟩ | ⟨z, dx, fs, r, q⟩
      · exact .inl ⟨a, e, fun z => n (f a _ r z), .inl ⟨z, r⟩⟩
      · exact .inl ⟨a, e, fun z => n (f a _ r z), .inr ⟨z, dx, fs, r, ImF.avoid f ks fs q⟩⟩
    · exact .inr ⟨a, o, xs, e, r, c1, c2, ImM.avoid f ks _ q⟩
theorem ImA.avoid (f : ∀ a o, H a = some o → N' a → N a) : ∀ (ds : List PyData) (vs : List V), ImA W N H ds vs → ImA W N' H ds vs
  | [], _, h => h
  | d :: ds, _, h => by
    obtain ⟨v, r, e, q1, q2⟩ := h
    exact ⟨v, r, e, Im.avoid f d v q1, ImA.avoid f ds r q2⟩
theorem ImF.avoid (f : ∀ a o, H a = some o → N' a → N a) : ∀ (ds : List (PyData × PyData)) (vs : List (Str × V)), ImF W N H ds vs → ImF W N' H ds vs
  | [], _, h => h
  | (_, d) :: ds, _, h => by
    obtain ⟨x, v, r, e, e2, q1, q2⟩ := h
    exact ⟨x, v, r, e, e2, Im.avoid f d v q1, ImF.avoid f ds r q2⟩
theorem ImM.avoid (f : ∀ a o, H a = some o → N' a → N a) : ∀ (ds : List (PyData × PyData)) (v : V), ImM W N H ds v → ImM W N' H ds v
  | [], _, h => h
  | (_, d) :: ds, v, h => by
    obtain ⟨e, e2, q⟩ := h
    exact ⟨e, e2, Im.avoid f d v q⟩
end
mutual
def plainD : PyData → Bool
  | .list ds => plainA ds
  | .tuple ds => plainA ds
  | .dict _ => false
  | _ => true
def plainA : List PyData → Bool
  | [] => true
  | d :: ds => plainD d && plainA ds
end
mutual
theorem Im.dp : ∀ (d : PyData) (v : V), plainD d = true → Im W N H d v → Dp W.K H v d
  | .none, _, _, h => by cases h; exact .non
  | .bool _, _, _, h => by cases h; exact .bl _
  | .int _, _, _, h => by cases h; exact .int _
  | .str _, _, _, h => by cases h; exact .str _
  | .list ds, v, p, h => by
    obtain ⟨a, xs, rfl, r, n, q⟩ := h
    exact .lst (.inl (.inl r)) (ImA.dp ds xs p q)
  | .tuple ds, v, p, h => by
    obtain ⟨a, xs, rfl, r, q⟩ := h
    exact .tup r (ImA.dp ds xs p q)
  | .dict ks, v, p, h => by cases p
theorem ImA.dp : ∀ (ds : List PyData) (vs : List V), plainA ds = true → ImA W N H ds vs → DpAll W.K H vs ds
  | [], _, _, h => by cases h; exact .nil
  | d :: ds, _, p, h => by
    obtain ⟨v, r, rfl, q1, q2⟩ := h
    have p' : (plainD d && plainA ds) = true := p
    rw [Bool.and_eq_true] at p'
    exact .cons (Im.dp d v p'.1 q1) (ImA.dp ds r p'.2 q2)
end
theorem ImA.length : ∀ {ds : List PyData} {vs : List V}, ImA W N H ds vs → vs.length = ds.length
  | [], _, h => by cases h; rfl
  | d :: ds, _, h => by
    obtain ⟨v, r, rfl, q1, q2⟩ := h
    rw [List.length_cons, List.length_cons, ImA.length q2]
theorem ImA.get : ∀ {ds : List PyData} {vs : List V} {i : Nat} {d : PyData}, ImA W N H ds vs → ds[i]? = some d → ∃ v, vs[i]? = some v ∧ Im W N H d v
  | [], _, _, _, _, h => by simp at h
  | d :: ds, _, 0, e, h, he => by
    obtain ⟨v, r, rfl, q1, q2⟩ := h
    have : d = e := by simpa using he
    subst this
    exact ⟨v, rfl, q1⟩
  | d :: ds, _, i + 1, e, h, he => by
    obtain ⟨v, r, rfl, q1, q2⟩ := h
    obtain ⟨w, h1, h2⟩ := ImA.get (i := i) q2 (by simpa using he)
    exact ⟨w, by simpa using h1, h2⟩
theorem ImA.append : ∀ {ds es : List PyData} {vs ws : List V}, ImA W N H ds vs → ImA W N H es ws → ImA W N H (ds ++ es) (vs ++ ws)
  | [], _, _, _, h, h' => by cases h; exact h'
  | d :: ds, _, _, _, h, h' => by
    obtain ⟨v, r, rfl, q1, q2⟩ := h
    exact ⟨v, r ++ _, rfl, q1, ImA.append q2 h'⟩
theorem ImA.one {d : PyData} {v : V} (h : Im W N H d v) : ImA W N H [d] [v] := ⟨v, [], rfl, h, rfl⟩
theorem ImA.take : ∀ {ds : List PyData} {vs : List V} (n : Nat), ImA W N H ds vs → ImA W N H (ds.take n) (vs.take n)
  | [], _, n, h => by cases h; rw [List.take_nil, List.take_nil]; rfl
  | d :: ds, _, 0, h => rfl
  | d :: ds, _, n + 1, h => by
    obtain ⟨v, r, rfl, q1, q2⟩ := h
    exact ⟨v, r.take n, rfl, q1, ImA.take n q2⟩
theorem ImA.drop : ∀ {ds : List PyData} {vs : List V} (n : Nat), ImA W N H ds vs → ImA W N H (ds.drop n) (vs.drop n)
  | [], _, n, h => by cases h; rw [List.drop_nil, List.drop_nil]; rfl
  | d :: ds, _, 0, h => h
  | d :: ds, _, n + 1, h => by
    obtain ⟨v, r, rfl, q1, q2⟩ := h
    exact ImA.drop n q2
theorem ImA.set : ∀ {ds : List PyData} {vs : List V} {d : PyData} {v : V} (i : Nat), ImA W N H ds vs → Im W N H d v → ImA W N H (ds.set i d) (vs.set i v)
  | [], _, _, _, _, h, _ => by cases h; rfl
  | e :: ds, _, d, v, 0, h, q => by
    obtain ⟨u, r, rfl, q1, q2⟩ := h
    exact ⟨v, r, rfl, q, q2⟩
  | e :: ds, _, d, v, i + 1, h, q => by
    obtain ⟨u, r, rfl, q1, q2⟩ := h
    exact ⟨u, r.set i v, rfl, q1, ImA.set i q2 q⟩
theorem ImA.ints : ∀ {ns : List Int} {vs : List V}, ImA W N H (ns.map .int) vs → vs = ns.map V.int
  | [], _, h => h
  | n :: ns, _, h => by
    obtain ⟨v, r, rfl, q1, q2⟩ := h
    rw [ImA.ints q2, show v = .int n from q1]
    rfl
theorem ImA.of_ints : ∀ (ns : List Int), ImA W N H (ns.map .int) (ns.map V.int)
  | [] => rfl
  | n :: ns => ⟨.int n, _, rfl, rfl, ImA.of_ints ns⟩
theorem ImA.bools : ∀ {ns : List Bool} {vs : List V}, ImA W N H (ns.map .bool) vs → vs = ns.map V.bl
  | [], _, h => h
  | n :: ns, _, h => by
    obtain ⟨v, r, rfl, q1, q2⟩ := h
    rw [ImA.bools q2, show v = .bl n from q1]
    rfl
theorem ImA.strs : ∀ {ns : List Str} {vs : List V}, ImA W N H (ns.map .str) vs → vs = ns.map V.str
  | [], _, h => h
  | n :: ns, _, h => by
    obtain ⟨v, r, rfl, q1, q2⟩ := h
    rw [ImA.strs q2, show v = .str n from q1]
    rfl
theorem ImA.of_strs : ∀ (ns : List Str), ImA W N H (ns.map .str) (ns.map V.str)
  | [] => rfl
  | n :: ns => ⟨.str n, _, rfl, rfl, ImA.of_strs ns⟩
end

structure Res where
  M : Addr → Prop
  I : Hp → Prop
  b : Addr
  st : ∀ H H', I H → (∀ a o, (M a ∨ ∀ xs, o ≠ HO.lst xs) → H a = some o → H' a = some o) → I H'
  al : ∀ H a, I H → M a → ∃ o, H a = some o
def Res.none : Res := ⟨fun _ => False, fun _ => True, 0, fun _ _ _ _ => True.intro, fun _ _ _ h => h.elim⟩

/-- what a slot is known to hold -/
inductive Ent where
  | d (x : PyData) | o (xs : List PyData) | m | u | s (ns : List Int)
abbrev Ev := List Ent
def nth : Ev → Nat → Ent
  | [], _ => .u
  | e :: _, 0 => e
  | _ :: r, i + 1 => nth r i
def put : Ev → Nat → Ent → Ev
  | [], _, _ => []
  | _ :: r, 0, e => e :: r
  | x :: r, i + 1, e => x :: put r i e
theorem nth_put_same : ∀ {ρ : Ev} {i : Nat} {e : Ent}, i < ρ.length → nth (put ρ i e) i = e
  | [], _, _, h => absurd h (Nat.not_lt_zero _)
  | _ :: _, 0, _, _ => rfl
  | _ :: r, i + 1, e, h => nth_put_same (ρ := r) (Nat.lt_of_succ_lt_succ h)
theorem nth_put_ne : ∀ {ρ : Ev} {i j : Nat} {e : Ent}, j ≠ i → nth (put ρ i e) j = nth ρ j
  | [], _, _, _, _ => rfl
  | _ :: _, 0, 0, _, h => absurd rfl h
  | _ :: _, 0, j + 1, _, _ => rfl
  | _ :: _, i + 1, 0, _, _ => rfl
  | _ :: r, i + 1, j + 1, e, h => nth_put_ne (ρ := r) fun z => h (by rw [z])
theorem put_len : ∀ {ρ : Ev} {i : Nat} {e : Ent}, (put ρ i e).length = ρ.length
  | [], _, _ => rfl
  | _ :: _, 0, _ => rfl
  | _ :: r, i + 1, e => by show (put r i e).length + 1 = r.length + 1; rw [put_len]
theorem nth_out : ∀ {ρ : Ev} {i : Nat}, ρ.length ≤ i → nth ρ i = .u
  | [], _, _ => rfl
  | _ :: _, 0, h => absurd h (Nat.not_succ_le_zero _)
  | _ :: r, i + 1, h => nth_out (ρ := r) (Nat.le_of_succ_le_succ h)

theorem put_out : ∀ {ρ : Ev} {i : Nat} {e : Ent}, ρ.length ≤ i → put ρ i e = ρ
  | [], _, _, _ => rfl
  | _ :: _, 0, _, h => absurd h (Nat.not_succ_le_zero _)
  | x :: r, i + 1, e, h => by show x :: put r i e = x :: r; rw [put_out (Nat.le_of_succ_le_succ h)]
/-- the script: locked, or an object of the module -/
def SqS (K : PySem.W.Frag) (H : Hp) (a : Addr) (xs : List V) : Prop := (∃ o, H a = some (.frz o (.lst xs))) ∨
  ∃ (o : Obj) (its : Array Value) (n : Nat), K.lookup a = some o ∧ o.cls = .type "list" ∧ o.dict = none ∧ o.data = .seq its n ∧ its.size ≤ sizeLine ∧ Vals xs its.toList
theorem SqS.sql {K : PySem.W.Frag} {H : Hp} {a : Addr} {xs : List V} (h : SqS K H a xs) : SqL K H a xs := by
  rcases h with ⟨o, h⟩ | h
  · exact .inl (.inr ⟨o, h⟩)
  · exact .inr h
theorem SqS.keep {M : Addr → Prop} {K : PySem.W.Frag} {H H' : Hp} {a : Addr} {xs : List V} (h : SqS K H a xs) (k : Keep M H H') : SqS K H' a xs := by
  rcases h with ⟨o, h⟩ | h
  · exact .inl ⟨o, k.fz a o _ h⟩
  · exact .inr h
structure Gx where
  W : Wd
  R : Res
  A : Addr → Prop
  H0 : Hp
def Nv (A : Addr → Prop) (O : Nat → Option Addr) (a : Addr) : Prop := A a ∨ ∃ i, O i = some a
def EntOk (G : Gx) (O : Nat → Option Addr) (σ : L2.St) (H : Hp) (i : Nat) : Ent → Prop
  | .u => True
  | .d x => ∃ v, σ[i]? = some (some v) ∧ Im G.W (Nv G.A O) H x v
  | .o xs => ∃ p vs, σ[i]? = some (some (.ref p)) ∧ O i = some p ∧ H p = some (.lst vs) ∧ ImA G.W (Nv G.A O) H xs vs
  | .m => σ[i]? = some (some (.ref G.R.b))
  | .s ns => ∃ a, σ[i]? = some (some (.ref a)) ∧ SqS G.W.K H a (ns.map V.int)
structure Sta (G : Gx) (an : List (PyData × V)) (O : Nat → Option Addr) (σ : L2.St) (H : Hp) (ρ : Ev) : Prop where
  inv : G.R.I H
  kp : Keep G.R.M G.H0 H
  al : ∀ a, G.A a → ∃ o, G.H0 a = some o
  ra : ∀ a, G.R.M a → G.A a
  fr : ∀ i p, O i = some p → G.H0 p = none ∧ ∃ xs, H p = some (.lst xs)
  oi : ∀ i j p, O i = some p → O j = some p → i = j
  ob : ∃ b, ∀ i, b ≤ i → O i = none
  oe : ∀ i p, O i = some p → ρ.length ≤ i ∨ ∃ ds, nth ρ i = .o ds
  len : σ.length = ρ.length
  en : ∀ i, EntOk G O σ H i (nth ρ i)
  as : ∀ p ∈ an, Im G.W (Nv G.A O) H p.1 p.2
section
variable {G : Gx} {an : List (PyData × V)} {O : Nat → Option Addr} {σ : L2.St} {H H' : Hp} {ρ : Ev}
theorem nv_r (al : ∀ a, G.A a → ∃ o, G.H0 a = some o) (S : Sta G an O σ H ρ) {a : Addr} (h : Nv G.A O a) (hn : ¬ G.R.M a) : (G.A a ∨ ∃ i, O i = some a) := h
/-- the expression-level step: all but the drawn state stands -/
theorem Sta.keep (S : Sta G an O σ H ρ) (k : Keep G.R.M H H') (hi : G.R.I H') : Sta G an O σ H' ρ := by
  have own : ∀ i p, O i = some p → ¬ G.R.M p := fun i p e m => by
    obtain ⟨o, q⟩ := S.al p (S.ra p m)
    rw [(S.fr i p e).1] at q
    cases q
  have kN : Keep (Nv G.A O) H H' := k.mono fun a m => .inl (S.ra a m)
  refine ⟨hi, S.kp.trans k, S.al, S.ra, fun i p e => ⟨(S.fr i p e).1, ?_⟩, S.oi, S.ob, S.oe, S.len, fun i => ?_, fun p hp => Im.keep kN _ _ (S.as p hp)⟩
  · obtain ⟨xs, q⟩ := (S.fr i p e).2
    exact ⟨xs, k.ob p _ q (own i p e)⟩
  · have h := S.en i
    cases hx : nth ρ i with
    | u => trivial
    | d x =>
      rw [hx] at h
      obtain ⟨v, e, q⟩ := h
      exact ⟨v, e, Im.keep kN _ _ q⟩
    | o xs =>
      rw [hx] at h
      obtain ⟨p, vs, e1, e2, e3, q⟩ := h
      exact ⟨p, vs, e1, e2, k.ob p _ e3 (own i p e2), ImA.keep kN _ _ q⟩
    | m => rw [hx] at h; exact h
    | s ns =>
      rw [hx] at h
      obtain ⟨a, e1, e2⟩ := h
      exact ⟨a, e1, e2.keep k⟩
end
end DL

namespace DL
open PySem PySem.Spec PyProof.Rows L2

abbrev WE := Ev → (PyData → Prop) → Prop
abbrev WT := Ev → (Bool → Prop) → Prop
abbrev WA := Ev → (List PyData → Prop) → Prop
structure WX where
  nx : Ev → Prop
  rt : PyData → Prop
  bk : Ev → Prop
  ct : Ev → Prop
abbrev WS := WX → Ev → Prop

def Nn (G : Gx) (O : Nat → Option Addr) (s : Bool) : Addr → Prop := if s = true then Nv G.A O else G.A
theorem nn_t {G : Gx} {O : Nat → Option Addr} : Nn G O true = Nv G.A O := rfl
theorem nn_f {G : Gx} {O : Nat → Option Addr} : Nn G O false = G.A := rfl
theorem nn_a {G : Gx} {O : Nat → Option Addr} {s : Bool} {a : Addr} (h : G.A a) : Nn G O s a := by
  cases s with
  | true => exact .inl h
  | false => exact h
theorem nn_v {G : Gx} {O : Nat → Option Addr} {s : Bool} {a : Addr} (h : Nn G O s a) : Nv G.A O a := by
  cases s with
  | true => exact h
  | false => exact .inl h

def up (G : Gx) (s : Bool) (we : WE) : TE := fun σ H Q => ∃ (an : List (PyData × V)) (O : Nat → Option Addr) (ρ : Ev) (Φ : PyData → Prop), Sta G an O σ H ρ ∧ we ρ Φ ∧
  ∀ v H' d, Φ d → Im G.W (Nn G O s) H' d v → Keep G.R.M H H' → G.R.I H' → Q v H'
def upT (G : Gx) (wt : WT) : TT := fun σ H Q => ∃ (an : List (PyData × V)) (O : Nat → Option Addr) (ρ : Ev) (Φ : Bool → Prop), Sta G an O σ H ρ ∧ wt ρ Φ ∧
  ∀ b H', Φ b → Keep G.R.M H H' → G.R.I H' → Q b H'
def upA (G : Gx) (s : Bool) (wa : WA) : TA := fun σ H Q => ∃ (an : List (PyData × V)) (O : Nat → Option Addr) (ρ : Ev) (Φ : List PyData → Prop), Sta G an O σ H ρ ∧ wa ρ Φ ∧
  ∀ vs H' ds, Φ ds → ImA G.W (Nn G O s) H' ds vs → Keep G.R.M H H' → G.R.I H' → Q vs H'
def upS (G : Gx) (ws : WS) : TS := fun D σ H => ∃ (an : List (PyData × V)) (O : Nat → Option Addr) (ρ : Ev) (Wx : WX), Sta G an O σ H ρ ∧ ws Wx ρ ∧
  (∀ O' σ' H' ρ', Sta G an O' σ' H' ρ' → Wx.nx ρ' → D.nx σ' H') ∧
  (∀ v H' d, Wx.rt d → Im G.W G.A H' d v → Keep G.R.M G.H0 H' → G.R.I H' → D.rt v H') ∧
  (∀ O' σ' H' ρ', Sta G an O' σ' H' ρ' → Wx.bk ρ' → D.bk σ' H') ∧
  (∀ O' σ' H' ρ', Sta G an O' σ' H' ρ' → Wx.ct ρ' → D.ct σ' H')

section
variable {X : Cx} {G : Gx} {e a b : Expr} {t t' : TE} {pos : Pos}
theorem pe_weak (h : PE X e t) (k : ∀ σ H Q, t' σ H Q → t σ H Q) : PE X e t' := ⟨fun pins s σ H Q I q => h.run pins s σ H Q I (k σ H Q q)⟩
theorem pt_weak {t t' : TT} (h : PT X e t) (k : ∀ σ H Q, t' σ H Q → t σ H Q) : PT X e t' := ⟨fun pins s σ H Q I q => h.run pins s σ H Q I (k σ H Q q)⟩
theorem pw_weak {t t' : TT} (h : PW X e t) (k : ∀ σ H Q, t' σ H Q → t σ H Q) : PW X e t' := ⟨fun wh pins s σ H Q I q => h.run wh pins s σ H Q I (k σ H Q q)⟩
theorem pa_weak {es : List Expr} {t t' : TA} (h : PA X es t) (k : ∀ σ H Q, t' σ H Q → t σ H Q) : PA X es t' := ⟨fun pos pins s σ H Q I q => h.run pos pins s σ H Q I (k σ H Q q)⟩
theorem ps_weak {st : Stmt} {t t' : TS} (h : PS X st t) (k : ∀ D σ H, t' D σ H → t D σ H) : PS X st t' := ⟨fun pins s σ H D I q => h.run pins s σ H D I (k D σ H q)⟩
theorem pss_weak {st : List Stmt} {t t' : TS} (h : PSs X st t) (k : ∀ D σ H, t' D σ H → t D σ H) : PSs X st t' := ⟨fun pins s σ H D I q => h.run pins s σ H D I (k D σ H q)⟩
end
section
variable {G : Gx} {an : List (PyData × V)} {O : Nat → Option Addr} {σ : L2.St} {H H' : Hp} {ρ : Ev} {s s1 s2 : Bool}
theorem Sta.there (S : Sta G an O σ H ρ) {a : Addr} (h : Nv G.A O a) : ∃ o, H a = some o := by
  rcases h with h | ⟨i, h⟩
  · obtain ⟨o, q⟩ := S.al a h
    by_cases m : G.R.M a
    · obtain ⟨xs, z⟩ := G.R.al H a S.inv m
      exact ⟨_, z⟩
    · exact ⟨o, S.kp.ob a o q m⟩
  · obtain ⟨_, xs, q⟩ := S.fr i a h
    exact ⟨_, q⟩
theorem Sta.fresh (S : Sta G an O σ H ρ) {p : Addr} (h : H p = none) : ¬ Nn G O s p := fun z => by
  obtain ⟨o, q⟩ := S.there (nn_v z)
  rw [h] at q
  cases q
theorem Sta.fresh0 (S : Sta G an O σ H ρ) {p : Addr} (h : H p = none) : G.H0 p = none := by
  cases q : G.H0 p with
  | none => rfl
  | some o =>
    by_cases m : G.R.M p
    · obtain ⟨xs, z⟩ := G.R.al H p S.inv m
      rw [h] at z
      cases z
    · rw [S.kp.ob p o q m] at h
      cases h
theorem Sta.ka (S : Sta G an O σ H ρ) (k : Keep G.R.M H H') : Keep (Nn G O s) H H' := k.mono fun a m => nn_a (S.ra a m)
theorem Sta.im (S : Sta G an O σ H ρ) (k : Keep G.R.M H H') {d : PyData} {v : V} (h : Im G.W (Nn G O s) H d v) : Im G.W (Nn G O s) H' d v := Im.keep (S.ka k) d v h
theorem Sta.ima (S : Sta G an O σ H ρ) (k : Keep G.R.M H H') {d : List PyData} {v : List V} (h : ImA G.W (Nn G O s) H d v) : ImA G.W (Nn G O s) H' d v := ImA.keep (S.ka k) d v h
theorem Sta.newI (S : Sta G an O σ H ρ) {p : Addr} {o : HO} (h : H p = none) : G.R.I (upd H p o) := G.R.st _ _ S.inv fun a u m e => by rw [upd_ne (ne_of_none e h)]; exact e
/-- a new list, a new tuple -/
theorem Sta.lst (S : Sta G an O σ H ρ) {p : Addr} {ds : List PyData} {vs : List V} (h : H p = none) (q : ImA G.W (Nn G O s) H ds vs) : Im G.W (Nn G O s) (upd H p (.lst vs)) (.list ds) (.ref p) :=
  ⟨p, vs, rfl, upd_same, S.fresh h, ImA.keep (Keep.new h) ds vs q⟩
theorem Sta.tup (S : Sta G an O σ H ρ) {p : Addr} {ds : List PyData} {vs : List V} (h : H p = none) (q : ImA G.W (Nn G O s) H ds vs) : Im G.W (Nn G O s) (upd H p (.tup vs)) (.tuple ds) (.ref p) :=
  ⟨p, vs, rfl, .inl (.inl upd_same), ImA.keep (Keep.new h) ds vs q⟩
theorem loose {d : PyData} {v : V} (h : Im G.W (Nn G O s) H d v) : Im G.W (Nn G O false) H d v := Im.avoid (fun a o e z => nn_a z) d v h
theorem looseA {d : List PyData} {v : List V} (h : ImA G.W (Nn G O s) H d v) : ImA G.W (Nn G O false) H d v := ImA.avoid (fun a o e z => nn_a z) d v h
end

def wVar (i : Nat) : WE := fun ρ Φ => match nth ρ i with | .d x => Φ x | _ => False
def wOwn (i : Nat) : WE := fun ρ Φ => match nth ρ i with | .d x => Φ x | .o xs => Φ (.list xs) | _ => False
def wC (d : PyData) : WE := fun _ Φ => Φ d
section
variable {X : Cx} {G : Gx} {pos : Pos} {s s1 s2 : Bool}
theorem de_var (i : Nat) {x : Str} (hN : X.N[i]? = some x := by rfl) (hv : Vis X.env.scope x := by first | exact Or.inl rfl | exact Or.inr (Or.inl rfl) | exact Or.inr (Or.inr rfl)) (hd : (x == ("__debug__" : Str)) = false := by decide)
    (hcd : (x == ("__classdict__" : Str)) = false := by decide) : PE X (.Name x pos) (up G true (wVar i)) := pe_weak (pe_var hN hv hd hcd) fun σ H Q ⟨an, O, ρ, Φ, S, h, q⟩ => by
  have en := S.en i
  unfold wVar at h
  cases hx : nth ρ i with
  | d x =>
    rw [hx] at en h
    obtain ⟨v, e, im⟩ := en
    exact ⟨v, e, q v H x h im (Keep.refl H) S.inv⟩
  | o xs => rw [hx] at h; exact h.elim
  | m => rw [hx] at h; exact h.elim
  | u => rw [hx] at h; exact h.elim
  | s ns => rw [hx] at h; exact h.elim
theorem de_own (i : Nat) {x : Str} (hN : X.N[i]? = some x := by rfl) (hv : Vis X.env.scope x := by first | exact Or.inl rfl | exact Or.inr (Or.inl rfl) | exact Or.inr (Or.inr rfl)) (hd : (x == ("__debug__" : Str)) = false := by decide)
    (hcd : (x == ("__classdict__" : Str)) = false := by decide) : PE X (.Name x pos) (up G false (wOwn i)) := pe_weak (pe_var hN hv hd hcd) fun σ H Q ⟨an, O, ρ, Φ, S, h, q⟩ => by
  have en := S.en i
  unfold wOwn at h
  cases hx : nth ρ i with
  | d x =>
    rw [hx] at en h
    obtain ⟨v, e, im⟩ := en
    exact ⟨v, e, q v H x h (loose (s := true) im) (Keep.refl H) S.inv⟩
  | o xs =>
    rw [hx] at en h
    obtain ⟨p, vs, e1, e2, e3, im⟩ := en
    refine ⟨.ref p, e1, q _ H _ h ⟨p, vs, rfl, e3, fun z => ?_, looseA (s := true) im⟩ (Keep.refl H) S.inv⟩
    obtain ⟨o, z2⟩ := S.al p z
    rw [(S.fr i p e2).1] at z2
    cases z2
  | m => rw [hx] at h; exact h.elim
  | u => rw [hx] at h; exact h.elim
  | s ns => rw [hx] at h; exact h.elim
theorem de_int {i : Int} {j : Nat} : PE X (.Constant (.int i) j pos) (up G s (wC (.int i))) := pe_weak pe_int fun σ H Q ⟨an, O, ρ, Φ, S, h, q⟩ => q _ H _ h rfl (Keep.refl H) S.inv
theorem de_bl {i : Bool} {j : Nat} : PE X (.Constant (.bool i) j pos) (up G s (wC (.bool i))) := pe_weak pe_bl fun σ H Q ⟨an, O, ρ, Φ, S, h, q⟩ => q _ H _ h rfl (Keep.refl H) S.inv
theorem de_non {j : Nat} : PE X (.Constant .none j pos) (up G s (wC .none)) := pe_weak pe_non fun σ H Q ⟨an, O, ρ, Φ, S, h, q⟩ => q _ H _ h rfl (Keep.refl H) S.inv
theorem de_str {i : Str} {j : Nat} : PE X (.Constant (.str i) j pos) (up G s (wC (.str i))) := pe_weak pe_str fun σ H Q ⟨an, O, ρ, Φ, S, h, q⟩ => q _ H _ h rfl (Keep.refl H) S.inv
/-- a module's name of a plain value -/
theorem de_glob {x : Str} {v : V} {d : PyData} {u : Value} (hg : Gl X x) (hm : X.mg x = some u) (r : RelV v u) (hd : ∀ N H, Im G.W N H d v) (hdb : (x == ("__debug__" : Str)) = false := by decide) : PE X (.Name x pos) (up G s (wC d)) :=
  pe_weak (pe_glob hg hm r hdb) fun σ H Q ⟨an, O, ρ, Φ, S, h, q⟩ => q _ H _ h (hd _ _) (Keep.refl H) S.inv
/-- a use where all may be read -/
theorem de_loose {e : Expr} {we : WE} (h : PE X e (up G s we)) : PE X e (up G false we) := pe_weak h fun σ H Q ⟨an, O, ρ, Φ, S, hw, q⟩ => ⟨an, O, ρ, Φ, S, hw, fun v H' d p im k i => q v H' d p (loose im) k i⟩

/-- a two-place operation by data -/
def OpD (G : Gx) (s s1 s2 : Bool) (r : R2) (f : PyData → PyData → (PyData → Prop) → Prop) : Prop :=
  ∀ (an : List (PyData × V)) (O : Nat → Option Addr) (σ : L2.St) (ρ : Ev) (H : Hp) (x y : V) (d e : PyData) (Φ : PyData → Prop) (Q : VK), Sta G an O σ H ρ → Im G.W (Nn G O s1) H d x → Im G.W (Nn G O s2) H e y → f d e Φ →
    (∀ v H' z, Φ z → Im G.W (Nn G O s) H' z v → Keep G.R.M H H' → G.R.I H' → Q v H') → r x y H Q
def wOp (f : PyData → PyData → (PyData → Prop) → Prop) (wa wb : WE) : WE := fun ρ Φ => wa ρ fun x => wb ρ fun y => f x y Φ
theorem up_op {r : R2} {f : PyData → PyData → (PyData → Prop) → Prop} {wa wb : WE} (hf : OpD G s s1 s2 r f) (σ : L2.St) (H : Hp) (Q : VK) (h : up G s (wOp f wa wb) σ H Q) : tOp r (up G s1 wa) (up G s2 wb) σ H Q := by
  obtain ⟨an, O, ρ, Φ, S, h, q⟩ := h
  refine ⟨an, O, ρ, _, S, h, fun v H1 d h1 im k1 i1 => ?_⟩
  refine ⟨an, O, ρ, _, S.keep k1 i1, h1, fun v2 H2 d2 h2 im2 k2 i2 => ?_⟩
  have S2 := (S.keep k1 i1).keep k2 i2
  exact hf an O σ ρ H2 v v2 d d2 Φ Q S2 ((S.keep k1 i1).im k2 im) im2 h2 fun w H3 z hz imz k3 i3 => q w H3 z hz imz ((k1.trans k2).trans k3) i3
theorem de_op {op : Operator} {a b : Expr} {r : R2} {f : PyData → PyData → (PyData → Prop) → Prop} {wa wb : WE} (ho : OpR X (binaryOp op) r) (hf : OpD G s s1 s2 r f) (ha : PE X a (up G s1 wa)) (hb : PE X b (up G s2 wb)) :
    PE X (.BinOp a op b pos) (up G s (wOp f wa wb)) := pe_weak (pe_op ho ha hb) (up_op hf)
theorem de_cmp {op : CmpOp} {a b : Expr} {r : R2} {f : PyData → PyData → (PyData → Prop) → Prop} {wa wb : WE} (ho : OpR X (compareOp op) r) (hf : OpD G s s1 s2 r f) (ha : PE X a (up G s1 wa)) (hb : PE X b (up G s2 wb)) (hm : behindInMarks op b = false) :
    PE X (.Compare a [op] [b] pos) (up G s (wOp f wa wb)) := pe_weak (pe_cmpR ho ha hb hm) (up_op hf)
/-- a truth value as a test -/
def wTest (we : WE) : WT := fun ρ Φ => we ρ fun d => match d with | .bool b => Φ b | _ => False
theorem up_test {we : WE} (σ : L2.St) (H : Hp) (Q : Bool → Hp → Prop) (h : upT G (wTest we) σ H Q) : tTest (up G s we) σ H Q := by
  obtain ⟨an, O, ρ, Φ, S, h, q⟩ := h
  refine ⟨an, O, ρ, _, S, h, fun v H1 d h1 im k1 i1 => ?_⟩
  cases d with
  | bool b => exact ⟨b, im, q b H1 h1 k1 i1⟩
  | _ => exact h1.elim
theorem dt_cmp {op : CmpOp} {a b : Expr} {r : R2} {f : PyData → PyData → (PyData → Prop) → Prop} {wa wb : WE} (ho : OpR X (compareOp op) r) (hf : OpD G true s1 s2 r f) (ha : PE X a (up G s1 wa)) (hb : PE X b (up G s2 wb)) (hm : behindInMarks op b = false) :
    PT X (.Compare a [op] [b] pos) (upT G (wTest (wOp f wa wb))) := by
  refine pt_weak (pt_cmpR ho ha hb hm) fun σ H Q h => ?_
  have := up_test (s := true) σ H Q h
  obtain ⟨an, O, ρ, Φ, S, h, q⟩ := this
  exact up_op hf σ H _ ⟨an, O, ρ, Φ, S, h, fun v H' d p im k i => q v H' d p im k i⟩
theorem dt_val {e : Expr} {we : WE} (h : PE X e (up G s we)) (he : ∀ whole, isTrue e X.env whole = (do let v ← whole; standAt e.pos; holding [v] (truthy v)) := by intro _; rfl) : PT X e (upT G (wTest we)) :=
  pt_weak (pt_val h he) fun σ H Q h => by
    have := up_test (s := s) σ H Q h
    obtain ⟨an, O, ρ, Φ, S, h, q⟩ := this
    exact ⟨an, O, ρ, Φ, S, h, q⟩

def fII (C : Int → Int → Prop) (g : Int → Int → PyData) : PyData → PyData → (PyData → Prop) → Prop := fun x y Φ => match x, y with | .int i, .int j => C i j ∧ Φ (g i j) | _, _ => False
def fII0 (g : Int → Int → PyData) : PyData → PyData → (PyData → Prop) → Prop := fun x y Φ => match x, y with | .int i, .int j => Φ (g i j) | _, _ => False
theorem od_int {C : Int → Int → Prop} {g : Int → Int → V} {g' : Int → Int → PyData} (hg : ∀ i j N H, Im G.W N H (g' i j) (g i j)) : OpD G s s1 s2 (rI C g) (fII C g') := by
  intro an O σ ρ H x y d e Φ Q S hx hy hf q
  unfold fII at hf
  split at hf
  · rename_i i j
    exact ⟨i, j, hx, hy, hf.1, q _ H _ hf.2 (hg _ _ _ _) (Keep.refl H) S.inv⟩
  · exact hf.elim
theorem od_int0 {g : Int → Int → V} {g' : Int → Int → PyData} (hg : ∀ i j N H, Im G.W N H (g' i j) (g i j)) : OpD G s s1 s2 (rI0 g) (fII0 g') := by
  intro an O σ ρ H x y d e Φ Q S hx hy hf q
  unfold fII0 at hf
  split at hf
  · rename_i i j
    exact ⟨i, j, hx, hy, q _ H _ hf (hg _ _ _ _) (Keep.refl H) S.inv⟩
  · exact hf.elim
theorem OpD.or {r r' : R2} {f f' : PyData → PyData → (PyData → Prop) → Prop} (h : OpD G s s1 s2 r f) (h' : OpD G s s1 s2 r' f') : OpD G s s1 s2 (fun x y H Q => r x y H Q ∨ r' x y H Q) (fun x y Φ => f x y Φ ∨ f' x y Φ) := by
  intro an O σ ρ H x y d e Φ Q S hx hy hf q
  rcases hf with hf | hf
  · exact .inl (h an O σ ρ H x y d e Φ Q S hx hy hf q)
  · exact .inr (h' an O σ ρ H x y d e Φ Q S hx hy hf q)
theorem OpD.imp {r : R2} {f f' : PyData → PyData → (PyData → Prop) → Prop} (h : OpD G s s1 s2 r f) (k : ∀ x y Φ, f' x y Φ → f x y Φ) : OpD G s s1 s2 r f' :=
  fun an O σ ρ H x y d e Φ Q S hx hy hf q => h an O σ ρ H x y d e Φ Q S hx hy (k _ _ _ hf) q
theorem opR_or {f : Value → Value → Sem Value} {r r' : R2} (h : OpR X f r) (h' : OpR X f r') : OpR X f (fun x y H Q => r x y H Q ∨ r' x y H Q) := by
  intro pins s σ H x y v u Q I rx ry hq
  rcases hq with hq | hq
  · exact h pins s σ H x y v u Q I rx ry hq
  · exact h' pins s σ H x y v u Q I rx ry hq
end
end DL

namespace DL
open PySem PySem.Spec PyProof.Rows L2

mutual
def dOk : Nat → PyData → Bool
  | _, .none => true
  | _, .bool _ => true
  | _, .int _ => true
  | _, .str x => PyData.strOk x
  | 0, .list _ => false
  | 0, .tuple _ => false
  | n + 1, .list ds => dOkA n ds
  | n + 1, .tuple ds => dOkA n ds
  | _, .dict _ => false
def dOkA : Nat → List PyData → Bool
  | _, [] => true
  | n, d :: ds => dOk n d && dOkA n ds
end
mutual
theorem dOk.all : ∀ (n : Nat) (d : PyData), dOk n d = true → plainD d = true ∧ d.canLay0 = true ∧ d.depth ≤ n
  | n, .none, _ => ⟨rfl, by simp only [PyData.canLay0], by simp only [PyData.depth]; omega⟩
  | n, .bool _, _ => ⟨rfl, by simp only [PyData.canLay0], by simp only [PyData.depth]; omega⟩
  | n, .int _, _ => ⟨rfl, by simp only [PyData.canLay0], by simp only [PyData.depth]; omega⟩
  | n, .str x, h => ⟨rfl, by simp only [PyData.canLay0]; cases n <;> simpa [dOk] using h, by simp only [PyData.depth]; omega⟩
  | 0, .list _, h => by simp [dOk] at h
  | 0, .tuple _, h => by simp [dOk] at h
  | n + 1, .list ds, h => by
    have q := dOkA.all n ds (by simpa [dOk] using h)
    exact ⟨q.1, by simp only [PyData.canLay0]; exact q.2.1, by simp only [PyData.depth]; omega⟩
  | n + 1, .tuple ds, h => by
    have q := dOkA.all n ds (by simpa [dOk] using h)
    exact ⟨q.1, by simp only [PyData.canLay0]; exact q.2.1, by simp only [PyData.depth]; omega⟩
  | n, .dict _, h => by cases n <;> simp [dOk] at h
theorem dOkA.all : ∀ (n : Nat) (d : List PyData), dOkA n d = true → plainA d = true ∧ PyData.canLayAll0 d = true ∧ PyData.depthAll d ≤ n
  | n, [], _ => ⟨rfl, by simp only [PyData.canLayAll0], by simp only [PyData.depthAll]; omega⟩
  | n, d :: ds, h => by
    have h' : dOk n d = true ∧ dOkA n ds = true := by simpa [dOkA, Bool.and_eq_true] using h
    have q1 := dOk.all n d h'.1
    have q2 := dOkA.all n ds h'.2
    exact ⟨by show (plainD d && plainA ds) = true; rw [q1.1, q2.1]; rfl, by simp only [PyData.canLayAll0]; rw [q1.2.1, q2.2.1]; rfl, by simp only [PyData.depthAll]; omega⟩
end
theorem dOk.plain {n : Nat} {d : PyData} (h : dOk n d = true) : plainD d = true := (dOk.all n d h).1
theorem dOk.shaped {n : Nat} {d : PyData} (h : dOk n d = true) (hn : n ≤ 64 := by decide) : SeqAt.shaped d = true := by
  have q := dOk.all n d h
  unfold SeqAt.shaped
  rw [q.2.1, Bool.true_and]
  exact decide_eq_true (Nat.le_trans q.2.2 hn)
theorem dOkA_iff {n : Nat} : ∀ {ds : List PyData}, dOkA n ds = true ↔ ∀ d ∈ ds, dOk n d = true
  | [] => by simp [dOkA]
  | d :: ds => by simp [dOkA, Bool.and_eq_true, dOkA_iff (ds := ds)]
/-- fit for ==, in -/
def Fit (d : PyData) : Prop := dOk 20 d = true

def fAdd : PyData → PyData → (PyData → Prop) → Prop := fun x y Φ => match x, y with
  | .int i, .int j => Φ (.int (i + j))
  | .str a, .str b => a.length + b.length ≤ 100000 ∧ Φ (.str (a ++ b))
  | .list a, .list b => a.length + b.length ≤ 100000 ∧ Φ (.list (a ++ b))
  | .tuple a, .tuple b => a.length + b.length ≤ 100000 ∧ Φ (.tuple (a ++ b))
  | _, _ => False
def fSub : PyData → PyData → (PyData → Prop) → Prop := fII0 fun i j => .int (i - j)
def fMul : PyData → PyData → (PyData → Prop) → Prop := fun x y Φ => match x, y with
  | .int i, .int j => CMulW i j ∧ Φ (.int (i * j))
  | .list a, .int k => -1000 ≤ k ∧ k ≤ 1000 ∧ a.length ≤ 100 ∧ Φ (.list (List.replicate k.toNat a).flatten)
  | _, _ => False
def fDiv : PyData → PyData → (PyData → Prop) → Prop := fII (fun _ j => (j ≠ 0 ∧ j.natAbs < 1073741824) ∨ (0 < j ∧ j.natAbs.log2 < 9000)) fun i j => .int (i.fdiv j)
def fMod : PyData → PyData → (PyData → Prop) → Prop := fII (fun _ j => j ≠ 0) fun i j => .int (i.fmod j)
def fPow : PyData → PyData → (PyData → Prop) → Prop := fII CPow fun i j => .int (i ^ j.toNat)
def fLt : PyData → PyData → (PyData → Prop) → Prop := fun x y Φ => match x, y with
  | .int i, .int j => Φ (.bool (decide (i < j)))
  | .str a, .str b => Φ (.bool (decide (a.cps.toList < b.cps.toList)))
  | _, _ => False
def fLe : PyData → PyData → (PyData → Prop) → Prop := fII0 fun i j => .bool (decide (i ≤ j))
def fGt : PyData → PyData → (PyData → Prop) → Prop := fII0 fun i j => .bool (decide (j < i))
def fGe : PyData → PyData → (PyData → Prop) → Prop := fII0 fun i j => .bool (decide (j ≤ i))
def fEq : PyData → PyData → (PyData → Prop) → Prop := fun x y Φ => match x, y with
  | .str a, .str b => Φ (.bool (decide (a = b)))
  | x, y => Fit x ∧ Fit y ∧ Φ (.bool (PyData.eqv x y))
def fNe : PyData → PyData → (PyData → Prop) → Prop := fun x y Φ => match x, y with
  | .str a, .str b => Φ (.bool (!decide (a = b)))
  | x, y => Fit x ∧ Fit y ∧ Φ (.bool (!PyData.eqv x y))
def isNone : PyData → Bool
  | .none => true
  | _ => false
def fIs : PyData → PyData → (PyData → Prop) → Prop := fun x y Φ => match x, y with
  | x, .none => Φ (.bool (isNone x))
  | .bool a, .bool b => Φ (.bool (decide (a = b)))
  | _, _ => False
def fIsNot : PyData → PyData → (PyData → Prop) → Prop := fun x y Φ => match x, y with
  | x, .none => Φ (.bool (!isNone x))
  | .bool a, .bool b => Φ (.bool (!decide (a = b)))
  | _, _ => False
def memD (x : PyData) (ds : List PyData) : Bool := ds.any fun z => PyData.eqv z x
def fIn : PyData → PyData → (PyData → Prop) → Prop := fun x y Φ => match y with
  | .list ds => Fit x ∧ Fit (.list ds) ∧ Φ (.bool (memD x ds))
  | .tuple ds => Fit x ∧ Fit (.tuple ds) ∧ Φ (.bool (memD x ds))
  | _ => False
def fNotIn : PyData → PyData → (PyData → Prop) → Prop := fun x y Φ => match y with
  | .list ds => Fit x ∧ Fit (.list ds) ∧ Φ (.bool (!memD x ds))
  | .tuple ds => Fit x ∧ Fit (.tuple ds) ∧ Φ (.bool (!memD x ds))
  | _ => False

theorem line5 {n : Nat} (h : n ≤ 100000) : n ≤ sizeLine := Nat.le_trans h (by decide)
section
variable {X : Cx} {G : Gx} {pos : Pos} {s s1 s2 : Bool}
theorem im_none_iff {W : Wd} {N : Addr → Prop} {H : Hp} : ∀ {d : PyData} {v : V}, Im W N H d v → decide (v = .non) = isNone d
  | .none, _, h => by cases h; rfl
  | .bool _, _, h => by cases h; rfl
  | .int _, _, h => by cases h; rfl
  | .str _, _, h => by cases h; rfl
  | .list _, _, h => by obtain ⟨a, xs, rfl, _⟩ := h; rfl
  | .tuple _, _, h => by obtain ⟨a, xs, rfl, _⟩ := h; rfl
  | .dict _, _, h => by rcases h with ⟨a, rfl, _⟩ | ⟨a, _, _, rfl, _⟩ <;> rfl
theorem im_bool {W : Wd} {N : Addr → Prop} {H : Hp} {b : Bool} {v : V} (h : Im W N H (.bool b) v) : v = .bl b := h
theorem im_strict {G : Gx} {O : Nat → Option Addr} {s s' : Bool} {H : Hp} {vs : List V} {ds : List PyData} (h : ImA G.W (Nn G O s) H ds vs) (e : s = s' ∨ s' = false) : ImA G.W (Nn G O s') H ds vs := by
  rcases e with e | e
  · rw [← e]; exact h
  · rw [e]; exact looseA h

def rAddU (K : PySem.W.Frag) : R2 := fun x y H Q => (rI0 (fun i j => .int (i + j))) x y H Q ∨ (∃ i j, x = .str i ∧ y = .str j ∧ i.length + j.length ≤ sizeLine ∧ Q (.str (i ++ j)) H) ∨ rCat x y H Q ∨ rCatA K x y H Q
theorem op_addU : OpR X (binaryOp .Add) (rAddU X.K) := opR_or op_add (opR_or op_add_str (opR_or op_cat op_catA))
theorem od_add : OpD G s s s (rAddU G.W.K) fAdd := by
  intro an O σ ρ H x y d e Φ Q S hx hy hf q
  unfold fAdd at hf
  split at hf
  · exact .inl ⟨_, _, hx, hy, q _ H _ hf rfl (Keep.refl H) S.inv⟩
  · exact .inr (.inl ⟨_, _, hx, hy, line5 hf.1, q _ H _ hf.2 rfl (Keep.refl H) S.inv⟩)
  · obtain ⟨a, xs, rfl, h1, _, q1⟩ := hx
    obtain ⟨b, ys, rfl, h2, _, q2⟩ := hy
    have l1 := ImA.length q1
    have l2 := ImA.length q2
    refine .inr (.inr (.inl ⟨a, b, xs, ys, rfl, rfl, h1, h2, line5 (by omega), fun p hp => ?_⟩))
    exact q _ _ _ hf.2 (S.lst hp (ImA.append q1 q2)) (Keep.new hp) (S.newI hp)
  · rename_i as bs
    have hx' := hx
    have hy' := hy
    obtain ⟨a, xs, rfl, h1, q1⟩ := hx
    obtain ⟨b, ys, rfl, h2, q2⟩ := hy
    have l1 := ImA.length q1
    have l2 := ImA.length q2
    refine .inr (.inr (.inr ⟨a, b, xs, ys, rfl, rfl, h1, h2, line5 (by omega), fun e => ?_, fun _ e => ?_, fun _ _ p hp => ?_⟩))
    · subst e
      have e2 : as = [] := List.eq_nil_of_length_eq_zero (by rw [← l1]; rfl)
      subst e2
      exact q _ H _ hf.2 hy' (Keep.refl H) S.inv
    · subst e
      have e2 : bs = [] := List.eq_nil_of_length_eq_zero (by rw [← l2]; rfl)
      subst e2
      rw [List.append_nil] at hf
      exact q _ H _ hf.2 hx' (Keep.refl H) S.inv
    · exact q _ _ _ hf.2 (S.tup hp (ImA.append q1 q2)) (Keep.new hp) (S.newI hp)
  · exact hf.elim
theorem od_sub : OpD G s s1 s2 (rI0 fun i j => .int (i - j)) fSub := od_int0 fun _ _ _ _ => rfl
def rMulU : R2 := fun x y H Q => (rI CMulW fun i j => .int (i * j)) x y H Q ∨ rRep x y H Q
theorem op_mulU : OpR X (binaryOp .Mult) rMulU := opR_or op_mulW op_rep
theorem ImA.rep {W : Wd} {N : Addr → Prop} {H : Hp} {ds : List PyData} {vs : List V} (h : ImA W N H ds vs) : ∀ n : Nat, ImA W N H (List.replicate n ds).flatten (List.replicate n vs).flatten
  | 0 => rfl
  | n + 1 => by
    rw [List.replicate_succ, List.replicate_succ, List.flatten_cons, List.flatten_cons]
    exact ImA.append h (ImA.rep h n)
theorem od_mul : OpD G s s s2 rMulU fMul := by
  intro an O σ ρ H x y d e Φ Q S hx hy hf q
  unfold fMul at hf
  split at hf
  · exact .inl ⟨_, _, hx, hy, hf.1, q _ H _ hf.2 rfl (Keep.refl H) S.inv⟩
  · rename_i as k
    obtain ⟨a, xs, rfl, h1, _, q1⟩ := hx
    obtain ⟨k1, k2, k3, hf⟩ := hf
    have l1 := ImA.length q1
    refine .inr ⟨a, k, xs, rfl, hy, h1, by omega, by omega, line5 ?_, fun p hp => ?_⟩
    · have a1 : xs.length * k.toNat ≤ 100 * 1000 := Nat.mul_le_mul (by omega) (by omega)
      exact a1
    · exact q _ _ _ hf (S.lst hp (ImA.rep q1 _)) (Keep.new hp) (S.newI hp)
  · exact hf.elim
def rDivU : R2 := fun x y H Q => (rI CDivN fun i j => .int (i.fdiv j)) x y H Q ∨ (rI CDivW fun i j => .int (i / j)) x y H Q
theorem op_divU : OpR X (binaryOp .FloorDiv) rDivU := opR_or op_fdivN op_fdivW
theorem od_div : OpD G s s1 s2 rDivU fDiv := by
  intro an O σ ρ H x y d e Φ Q S hx hy hf q
  unfold fDiv fII at hf
  split at hf
  · rename_i i j
    rcases hf.1 with c | c
    · exact .inl ⟨i, j, hx, hy, c, q _ H _ hf.2 rfl (Keep.refl H) S.inv⟩
    · refine .inr ⟨i, j, hx, hy, c, q _ H _ hf.2 ?_ (Keep.refl H) S.inv⟩
      show V.int _ = V.int _
      rw [Int.fdiv_eq_ediv_of_nonneg i (Int.le_of_lt c.1)]
  · exact hf.elim
theorem od_mod : OpD G s s1 s2 (rI (fun _ j => j ≠ 0) fun i j => .int (i.fmod j)) fMod := od_int fun _ _ _ _ => rfl
theorem od_pow : OpD G s s1 s2 (rI CPow fun i j => .int (i ^ j.toNat)) fPow := od_int fun _ _ _ _ => rfl
def rLtU : R2 := fun x y H Q => (rI0 fun i j => .bl (decide (i < j))) x y H Q ∨ (∃ i j, x = .str i ∧ y = .str j ∧ Q (.bl (decide (i.cps.toList < j.cps.toList))) H)
theorem op_ltU : OpR X (compareOp .Lt) rLtU := opR_or op_lt op_lt_str
theorem od_lt : OpD G s s1 s2 rLtU fLt := by
  intro an O σ ρ H x y d e Φ Q S hx hy hf q
  unfold fLt at hf
  split at hf
  · exact .inl ⟨_, _, hx, hy, q _ H _ hf rfl (Keep.refl H) S.inv⟩
  · exact .inr ⟨_, _, hx, hy, q _ H _ hf rfl (Keep.refl H) S.inv⟩
  · exact hf.elim
theorem od_le : OpD G s s1 s2 (rI0 fun i j => .bl (decide (i ≤ j))) fLe := od_int0 fun _ _ _ _ => rfl
theorem od_gt : OpD G s s1 s2 (rI0 fun i j => .bl (decide (j < i))) fGt := od_int0 fun _ _ _ _ => rfl
theorem od_ge : OpD G s s1 s2 (rI0 fun i j => .bl (decide (j ≤ i))) fGe := od_int0 fun _ _ _ _ => rfl
def rEqU (K : PySem.W.Frag) : R2 := fun x y H Q => rEq x y H Q ∨ rEqD K x y H Q
def rNeU (K : PySem.W.Frag) : R2 := fun x y H Q => rNe x y H Q ∨ rNeD K x y H Q
theorem op_eqU (hu : X.A.units + 65 < cLine) : OpR X (compareOp .Eq) (rEqU X.K) := opR_or op_eq (op_eqD (by omega))
theorem op_neU (hu : X.A.units + 65 < cLine) : OpR X (compareOp .NotEq) (rNeU X.K) := opR_or op_ne (op_neD (by omega))
theorem od_eq : OpD G s s1 s2 (rEqU G.W.K) fEq := by
  intro an O σ ρ H x y d e Φ Q S hx hy hf q
  unfold fEq at hf
  split at hf
  · rename_i a b
    refine .inl ⟨?_, ?_⟩
    · rw [show x = .str a from hx, show y = .str b from hy]; rfl
    · rw [show x = .str a from hx, show y = .str b from hy]
      have e1 : decide (V.str a = V.str b) = decide (a = b) := by by_cases e : a = b <;> simp [e]
      rw [e1]
      exact q _ H _ hf rfl (Keep.refl H) S.inv
  · exact .inr ⟨d, e, Im.dp d x (dOk.plain hf.1) hx, Im.dp e y (dOk.plain hf.2.1) hy, (dOk.shaped hf.1), (dOk.shaped hf.2.1), q _ H _ hf.2.2 rfl (Keep.refl H) S.inv⟩
theorem od_ne : OpD G s s1 s2 (rNeU G.W.K) fNe := by
  intro an O σ ρ H x y d e Φ Q S hx hy hf q
  unfold fNe at hf
  split at hf
  · rename_i a b
    refine .inl ⟨?_, ?_⟩
    · rw [show x = .str a from hx, show y = .str b from hy]; rfl
    · rw [show x = .str a from hx, show y = .str b from hy]
      have e1 : decide (V.str a = V.str b) = decide (a = b) := by by_cases e : a = b <;> simp [e]
      rw [e1]
      exact q _ H _ hf rfl (Keep.refl H) S.inv
  · exact .inr ⟨d, e, Im.dp d x (dOk.plain hf.1) hx, Im.dp e y (dOk.plain hf.2.1) hy, (dOk.shaped hf.1), (dOk.shaped hf.2.1), q _ H _ hf.2.2 rfl (Keep.refl H) S.inv⟩
def rIsU : R2 := fun x y H Q => (y = .non ∧ Q (.bl (decide (x = .non))) H) ∨ (∃ a b, x = .bl a ∧ y = .bl b ∧ Q (.bl (decide (a = b))) H)
def rIsNotU : R2 := fun x y H Q => (y = .non ∧ Q (.bl (!decide (x = .non))) H) ∨ (∃ a b, x = .bl a ∧ y = .bl b ∧ Q (.bl (!decide (a = b))) H)
theorem od_is : OpD G s s1 s2 rIsU fIs := by
  intro an O σ ρ H x y d e Φ Q S hx hy hf q
  unfold fIs at hf
  split at hf
  · refine .inl ⟨hy, ?_⟩
    rw [im_none_iff hx]
    exact q _ H _ hf rfl (Keep.refl H) S.inv
  · exact .inr ⟨_, _, hx, hy, q _ H _ hf rfl (Keep.refl H) S.inv⟩
  · exact hf.elim
theorem od_isnot : OpD G s s1 s2 rIsNotU fIsNot := by
  intro an O σ ρ H x y d e Φ Q S hx hy hf q
  unfold fIsNot at hf
  split at hf
  · refine .inl ⟨hy, ?_⟩
    rw [im_none_iff hx]
    exact q _ H _ hf rfl (Keep.refl H) S.inv
  · exact .inr ⟨_, _, hx, hy, q _ H _ hf rfl (Keep.refl H) S.inv⟩
  · exact hf.elim
theorem op_isU : OpR X (compareOp .Is) rIsU := opR_or op_isN op_is_bl
theorem op_isnotU : OpR X (compareOp .IsNot) rIsNotU := opR_or op_notN op_isnot_bl
/-- x in a list, in a tuple, of data -/
def rInU (K : PySem.W.Frag) : R2 := fun x y H Q => ∃ d ds e, (e = .list ds ∨ e = .tuple ds) ∧ Dp K H x d ∧ Dp K H y e ∧ SeqAt.shaped d = true ∧ SeqAt.shaped e = true ∧ Q (.bl (memD d ds)) H
def rNotInU (K : PySem.W.Frag) : R2 := fun x y H Q => ∃ d ds e, (e = .list ds ∨ e = .tuple ds) ∧ Dp K H x d ∧ Dp K H y e ∧ SeqAt.shaped d = true ∧ SeqAt.shaped e = true ∧ Q (.bl (!memD d ds)) H
theorem op_inU (hu : X.A.units + 65 < cLine) : OpR X (compareOp .In) (rInU X.K) := by
  intro pins s σ H x y v u Q I rx ry h
  obtain ⟨d, ds, e, he, hd, h2, sd, se, q⟩ := h
  obtain ⟨as, r1⟩ := Dp.reads I d x v hd rx
  obtain ⟨bs, r2⟩ := Dp.reads I e y u h2 ry
  rcases he with rfl | rfl
  · exact SeqAt.in_list_reads r2 r1 (SeqAt.canLay_of_shaped se) (SeqAt.canLay_of_shaped sd) (room_in_shaped sd hu) ⟨.bl _, H, I, rfl, q⟩
  · exact SeqAt.in_tuple_reads r2 r1 (SeqAt.canLay_of_shaped se) (SeqAt.canLay_of_shaped sd) (room_in_shaped sd hu) ⟨.bl _, H, I, rfl, q⟩
theorem op_notinU (hu : X.A.units + 65 < cLine) : OpR X (compareOp .NotIn) (rNotInU X.K) := by
  intro pins s σ H x y v u Q I rx ry h
  obtain ⟨d, ds, e, he, hd, h2, sd, se, q⟩ := h
  obtain ⟨as, r1⟩ := Dp.reads I d x v hd rx
  obtain ⟨bs, r2⟩ := Dp.reads I e y u h2 ry
  rcases he with rfl | rfl
  · exact SeqAt.notIn_list_reads r2 r1 (SeqAt.canLay_of_shaped se) (SeqAt.canLay_of_shaped sd) (room_in_shaped sd hu) ⟨.bl _, H, I, rfl, q⟩
  · exact SeqAt.notIn_tuple_reads r2 r1 (SeqAt.canLay_of_shaped se) (SeqAt.canLay_of_shaped sd) (room_in_shaped sd hu) ⟨.bl _, H, I, rfl, q⟩
theorem od_in : OpD G s s1 s2 (rInU G.W.K) fIn := by
  intro an O σ ρ H x y d e Φ Q S hx hy hf q
  unfold fIn at hf
  split at hf
  · exact ⟨d, _, _, .inl rfl, Im.dp d x (dOk.plain hf.1) hx, Im.dp _ y (dOk.plain hf.2.1) hy, (dOk.shaped hf.1), (dOk.shaped hf.2.1), q _ H _ hf.2.2 rfl (Keep.refl H) S.inv⟩
  · exact ⟨d, _, _, .inr rfl, Im.dp d x (dOk.plain hf.1) hx, Im.dp _ y (dOk.plain hf.2.1) hy, (dOk.shaped hf.1), (dOk.shaped hf.2.1), q _ H _ hf.2.2 rfl (Keep.refl H) S.inv⟩
  · exact hf.elim
theorem od_notin : OpD G s s1 s2 (rNotInU G.W.K) fNotIn := by
  intro an O σ ρ H x y d e Φ Q S hx hy hf q
  unfold fNotIn at hf
  split at hf
  · exact ⟨d, _, _, .inl rfl, Im.dp d x (dOk.plain hf.1) hx, Im.dp _ y (dOk.plain hf.2.1) hy, (dOk.shaped hf.1), (dOk.shaped hf.2.1), q _ H _ hf.2.2 rfl (Keep.refl H) S.inv⟩
  · exact ⟨d, _, _, .inr rfl, Im.dp d x (dOk.plain hf.1) hx, Im.dp _ y (dOk.plain hf.2.1) hy, (dOk.shaped hf.1), (dOk.shaped hf.2.1), q _ H _ hf.2.2 rfl (Keep.refl H) S.inv⟩
  · exact hf.elim
end
end DL

namespace DL
open PySem PySem.Spec PyProof.Rows L2

def wNil : WA := fun _ Φ => Φ []
def wCons (wa : WE) (wr : WA) : WA := fun ρ Φ => wa ρ fun x => wr ρ fun xs => Φ (x :: xs)
def wStar (wa : WE) (wr : WA) : WA := fun ρ Φ => wa ρ fun x => match x with | .tuple ys => (wr ρ fun xs => Φ (ys ++ xs)) | .list ys => (wr ρ fun xs => Φ (ys ++ xs)) | _ => False
def wTup (wa : WA) : WE := fun ρ Φ => wa ρ fun xs => xs.length ≤ 100000 ∧ Φ (.tuple xs)
def wLst (wa : WA) : WE := fun ρ Φ => wa ρ fun xs => xs.length ≤ 100000 ∧ Φ (.list xs)
section
variable {X : Cx} {G : Gx} {pos : Pos} {s s1 s2 : Bool} {e a b : Expr} {es : List Expr} {wa wb wc : WE} {wr : WA}
theorem da_nil : PA X [] (upA G s wNil) := pa_weak pa_nil fun σ H Q ⟨an, O, ρ, Φ, S, h, q⟩ => q [] H [] h rfl (Keep.refl H) S.inv
theorem da_cons (ha : PE X e (up G s wa)) (hr : PA X es (upA G s wr)) (hs : starEach (e :: es) X.env = (false, eval e X.env) :: starEach es X.env := by rfl) : PA X (e :: es) (upA G s (wCons wa wr)) :=
  pa_weak (pa_cons ha hr hs) fun σ H Q ⟨an, O, ρ, Φ, S, h, q⟩ => by
    refine ⟨an, O, ρ, _, S, h, fun v H1 d h1 im k1 i1 => ?_⟩
    refine ⟨an, O, ρ, _, S.keep k1 i1, h1, fun vs H2 ds h2 im2 k2 i2 => ?_⟩
    exact q (v :: vs) H2 (d :: ds) h2 ⟨v, vs, rfl, (S.keep k1 i1).im k2 im, im2⟩ (k1.trans k2) i2
theorem da_star {p : Pos} (hK : X.K = G.W.K) (ha : PE X e (up G s wa)) (hr : PA X es (upA G s wr)) (hs : starEach (.Starred e p :: es) X.env = (true, eval e X.env) :: starEach es X.env := by rfl) : PA X (.Starred e p :: es) (upA G s (wStar wa wr)) :=
  pa_weak (StX.pa_star ha hr hs) fun σ H Q ⟨an, O, ρ, Φ, S, h, q⟩ => by
    refine ⟨an, O, ρ, _, S, h, fun v H1 d h1 im k1 i1 => ?_⟩
    have S1 := S.keep k1 i1
    cases d with
    | tuple ys =>
      obtain ⟨p, xs, e1, r, m⟩ := im
      refine ⟨p, xs, e1, .inl (by rw [hK]; exact r), an, O, ρ, _, S1, h1, fun vs H2 ds h2 im2 k2 i2 => ?_⟩
      exact q _ H2 _ h2 (ImA.append (S1.ima k2 m) im2) (k1.trans k2) i2
    | list ys =>
      obtain ⟨p, xs, e1, r, n, m⟩ := im
      refine ⟨p, xs, e1, .inr (.inl (.inl r)), an, O, ρ, _, S1, h1, fun vs H2 ds h2 im2 k2 i2 => ?_⟩
      exact q _ H2 _ h2 (ImA.append (S1.ima k2 m) im2) (k1.trans k2) i2
    | _ => exact h1.elim
theorem de_tup {x1} (h : PA X es (upA G s wr)) : PE X (.Tuple es x1 pos) (up G s (wTup wr)) := pe_weak (pe_tup h) fun σ H Q ⟨an, O, ρ, Φ, S, h, q⟩ => by
  refine ⟨an, O, ρ, _, S, h, fun vs H1 ds h1 im k1 i1 => ?_⟩
  refine ⟨line5 (by rw [ImA.length im]; exact h1.1), fun p hp => ?_⟩
  have S1 := S.keep k1 i1
  exact q _ _ _ h1.2 (S1.tup hp im) (k1.trans (Keep.new hp)) (S1.newI hp)
theorem de_lst (h : PA X es (upA G s wr)) : PE X (.List es pos) (up G s (wLst wr)) := pe_weak (pe_lst h) fun σ H Q ⟨an, O, ρ, Φ, S, h, q⟩ => by
  refine ⟨an, O, ρ, _, S, h, fun vs H1 ds h1 im k1 i1 => ?_⟩
  refine ⟨line5 (by rw [ImA.length im]; exact h1.1), fun p hp => ?_⟩
  have S1 := S.keep k1 i1
  exact q _ _ _ h1.2 (S1.lst hp im) (k1.trans (Keep.new hp)) (S1.newI hp)

def fIx : PyData → PyData → (PyData → Prop) → Prop := fun x y Φ => match x, y with
  | .list ds, .int i => ∃ d, atI ds i = some d ∧ Φ d
  | .tuple ds, .int i => ∃ d, atI ds i = some d ∧ Φ d
  | .str z, .int i => z.length ≤ 100000 ∧ ∃ c, atI z.cps.toList i = some c ∧ Φ (.str ⟨#[c]⟩)
  | _, _ => False
theorem ImA.at {W : Wd} {N : Addr → Prop} {H : Hp} {ds : List PyData} {vs : List V} {i : Int} {d : PyData} (h : ImA W N H ds vs) (e : atI ds i = some d) : ∃ v, atI vs i = some v ∧ Im W N H d v := by
  unfold atI at e ⊢
  rw [ImA.length h]
  cases q : ixN ds.length i with
  | none => rw [q] at e; cases e
  | some j =>
    rw [q] at e
    exact ImA.get h e
theorem od_ix : OpD G s s s2 (rIx G.W.K) fIx := by
  intro an O σ ρ H x y d e Φ Q S hx hy hf q
  unfold fIx at hf
  split at hf
  · obtain ⟨a, xs, rfl, r, n, m⟩ := hx
    obtain ⟨d1, e1, h1⟩ := hf
    obtain ⟨v, e2, m2⟩ := ImA.at m e1
    exact .inl ⟨a, xs, _, v, rfl, hy, .inl (.inl r), e2, q v H d1 h1 m2 (Keep.refl H) S.inv⟩
  · obtain ⟨a, xs, rfl, r, m⟩ := hx
    obtain ⟨d1, e1, h1⟩ := hf
    obtain ⟨v, e2, m2⟩ := ImA.at m e1
    exact .inr (.inl ⟨a, xs, _, v, rfl, hy, r, e2, q v H d1 h1 m2 (Keep.refl H) S.inv⟩)
  · obtain ⟨hz, c, e1, h1⟩ := hf
    exact .inr (.inr ⟨_, _, c, hx, hy, line5 hz, e1, q _ H _ h1 rfl (Keep.refl H) S.inv⟩)
  · exact hf.elim
theorem de_ix (hK : X.K = G.W.K) (ha : PE X a (up G s wa)) (hb : PE X b (up G s2 wb)) (hs : PlainIx b) : PE X (.Subscript a b pos) (up G s (wOp fIx wa wb)) :=
  pe_weak (pe_ix ix_seq ha hb hs) (by rw [hK]; exact up_op od_ix)
/-- an item of a list of one's own -/
def wIxO (i : Nat) (wb : WE) : WE := fun ρ Φ => match nth ρ i with | .o ds => (wb ρ fun y => match y with | .int k => (∃ d, atI ds k = some d ∧ Φ d) | _ => False) | _ => False
theorem de_ixo (i : Nat) {x : Str} {p1 : Pos} (hb : PE X b (up G s2 wb)) (hs : PlainIx b) (hN : X.N[i]? = some x := by rfl) (hv : Vis X.env.scope x := by first | exact Or.inl rfl | exact Or.inr (Or.inl rfl) | exact Or.inr (Or.inr rfl)) (hd : (x == ("__debug__" : Str)) = false := by decide)
    (hcd : (x == ("__classdict__" : Str)) = false := by decide) : PE X (.Subscript (.Name x p1) b pos) (up G true (wIxO i wb)) :=
  pe_weak (pe_ix ix_list (pe_var hN hv hd hcd) hb hs) fun σ H Q ⟨an, O, ρ, Φ, S, h, q⟩ => by
    have en := S.en i
    unfold wIxO at h
    cases hx : nth ρ i with
    | o ds =>
      rw [hx] at en h
      obtain ⟨p, vs, e1, e2, e3, im⟩ := en
      refine ⟨.ref p, e1, an, O, ρ, _, S, h, fun v H1 d h1 im1 k1 i1 => ?_⟩
      have nm : ¬ G.R.M p := fun m => by
        obtain ⟨o, z2⟩ := S.al p (S.ra p m)
        rw [(S.fr i p e2).1] at z2
        cases z2
      cases d with
      | int k =>
        obtain ⟨d2, a1, h2⟩ := h1
        obtain ⟨w, a2, m2⟩ := ImA.at im a1
        exact ⟨p, vs, k, w, rfl, im1, .inl (.inl (k1.ob p _ e3 nm)), a2, q w H1 d2 h2 (Im.keep (S.ka (s := true) k1) _ _ m2) k1 i1⟩
      | _ => exact h1.elim
    | d x => rw [hx] at h; exact h.elim
    | m => rw [hx] at h; exact h.elim
    | u => rw [hx] at h; exact h.elim
    | s ns => rw [hx] at h; exact h.elim

def wAndV (wa wb : WE) : WE := fun ρ Φ => wa ρ fun x => match x with | .bool c => (if c = true then wb ρ Φ else Φ (.bool false)) | _ => False
def wOrV (wa wb : WE) : WE := fun ρ Φ => wa ρ fun x => match x with | .bool c => (if c = true then Φ (.bool true) else wb ρ Φ) | _ => False
def wNeg (wa : WE) : WE := fun ρ Φ => wa ρ fun x => match x with | .int i => Φ (.int (-i)) | _ => False
def wNotV (wa : WE) : WE := fun ρ Φ => wa ρ fun x => match x with | .bool c => Φ (.bool (!c)) | _ => False
def wAnd (wa wb : WT) : WT := fun ρ Φ => wa ρ fun c => if c = true then wb ρ Φ else Φ false
def wOr (wa wb : WT) : WT := fun ρ Φ => wa ρ fun c => if c = true then Φ true else wb ρ Φ
def wNot (wa : WT) : WT := fun ρ Φ => wa ρ fun c => Φ (!c)
def wIfE (wt : WT) (wa wb : WE) : WE := fun ρ Φ => wt ρ fun c => if c = true then wa ρ Φ else wb ρ Φ
variable {rest : List Expr} {ta tb : WT}
theorem de_one {op} (h : PE X a (up G s wa)) : PE X (.BoolOp op [a] pos) (up G s wa) := pe_one h
theorem de_and (ha : PE X a (up G s wa)) (hb : PE X (.BoolOp .And (b :: rest) pos) (up G s wb)) : PE X (.BoolOp .And (a :: b :: rest) pos) (up G s (wAndV wa wb)) := pe_weak (pe_and ha hb) fun σ H Q ⟨an, O, ρ, Φ, S, h, q⟩ => by
  refine ⟨an, O, ρ, _, S, h, fun v H1 d h1 im k1 i1 => ?_⟩
  cases d with
  | bool c =>
    refine ⟨c, im, ?_⟩
    cases c with
    | true =>
      dsimp only at h1
      rw [if_pos rfl] at h1 ⊢
      exact ⟨an, O, ρ, Φ, S.keep k1 i1, h1, fun v2 H2 d2 p2 m2 k2 i2 => q v2 H2 d2 p2 m2 (k1.trans k2) i2⟩
    | false =>
      dsimp only at h1
      rw [if_neg Bool.false_ne_true] at h1 ⊢
      exact q _ H1 _ h1 rfl k1 i1
  | _ => exact h1.elim
theorem de_or (ha : PE X a (up G s wa)) (hb : PE X (.BoolOp .Or (b :: rest) pos) (up G s wb)) : PE X (.BoolOp .Or (a :: b :: rest) pos) (up G s (wOrV wa wb)) := pe_weak (pe_or ha hb) fun σ H Q ⟨an, O, ρ, Φ, S, h, q⟩ => by
  refine ⟨an, O, ρ, _, S, h, fun v H1 d h1 im k1 i1 => ?_⟩
  cases d with
  | bool c =>
    refine ⟨c, im, ?_⟩
    cases c with
    | true =>
      dsimp only at h1
      rw [if_pos rfl] at h1 ⊢
      exact q _ H1 _ h1 rfl k1 i1
    | false =>
      dsimp only at h1
      rw [if_neg Bool.false_ne_true] at h1 ⊢
      exact ⟨an, O, ρ, Φ, S.keep k1 i1, h1, fun v2 H2 d2 p2 m2 k2 i2 => q v2 H2 d2 p2 m2 (k1.trans k2) i2⟩
  | _ => exact h1.elim
theorem de_not (ha : PE X a (up G s wa)) : PE X (.UnaryOp .Not a pos) (up G s (wNotV wa)) := pe_weak (pe_not ha) fun σ H Q ⟨an, O, ρ, Φ, S, h, q⟩ => by
  refine ⟨an, O, ρ, _, S, h, fun v H1 d h1 im k1 i1 => ?_⟩
  cases d with
  | bool c => exact ⟨c, im, q _ H1 _ h1 rfl k1 i1⟩
  | _ => exact h1.elim
theorem de_neg (ha : PE X a (up G s wa)) : PE X (.UnaryOp .USub a pos) (up G s (wNeg wa)) := pe_weak (pe_un un_neg ha) fun σ H Q ⟨an, O, ρ, Φ, S, h, q⟩ => by
  refine ⟨an, O, ρ, _, S, h, fun v H1 d h1 im k1 i1 => ?_⟩
  cases d with
  | int c => exact ⟨c, im, q _ H1 _ h1 rfl k1 i1⟩
  | _ => exact h1.elim
theorem dt_not (ha : PT X a (upT G ta)) : PT X (.UnaryOp .Not a pos) (upT G (wNot ta)) := pt_weak (pt_not ha) fun σ H Q ⟨an, O, ρ, Φ, S, h, q⟩ =>
  ⟨an, O, ρ, _, S, h, fun b H1 h1 k1 i1 => q _ H1 h1 k1 i1⟩
theorem dw_and1 (ha : PT X a (upT G ta)) : PW X (.BoolOp .And [a] pos) (upT G ta) := pw_and1 ha
theorem dw_or1 (ha : PT X a (upT G ta)) : PW X (.BoolOp .Or [a] pos) (upT G ta) := pw_or1 ha
theorem dw_and (ha : PT X a (upT G ta)) (hb : PW X (.BoolOp .And (b :: rest) pos) (upT G tb)) : PW X (.BoolOp .And (a :: b :: rest) pos) (upT G (wAnd ta tb)) := pw_weak (pw_and ha hb) fun σ H Q ⟨an, O, ρ, Φ, S, h, q⟩ => by
  refine ⟨an, O, ρ, _, S, h, fun c H1 h1 k1 i1 => ?_⟩
  cases c with
  | true =>
    rw [if_pos rfl] at h1 ⊢
    exact ⟨an, O, ρ, Φ, S.keep k1 i1, h1, fun b2 H2 p2 k2 i2 => q b2 H2 p2 (k1.trans k2) i2⟩
  | false =>
    rw [if_neg Bool.false_ne_true] at h1 ⊢
    exact q _ H1 h1 k1 i1
theorem dw_or (ha : PT X a (upT G ta)) (hb : PW X (.BoolOp .Or (b :: rest) pos) (upT G tb)) : PW X (.BoolOp .Or (a :: b :: rest) pos) (upT G (wOr ta tb)) := pw_weak (pw_or ha hb) fun σ H Q ⟨an, O, ρ, Φ, S, h, q⟩ => by
  refine ⟨an, O, ρ, _, S, h, fun c H1 h1 k1 i1 => ?_⟩
  cases c with
  | true =>
    rw [if_pos rfl] at h1 ⊢
    exact q _ H1 h1 k1 i1
  | false =>
    rw [if_neg Bool.false_ne_true] at h1 ⊢
    exact ⟨an, O, ρ, Φ, S.keep k1 i1, h1, fun b2 H2 p2 k2 i2 => q b2 H2 p2 (k1.trans k2) i2⟩
theorem de_ife {c : Expr} (hc : PT X c (upT G ta)) (ha : PE X a (up G s wa)) (hb : PE X b (up G s wb)) : PE X (.IfExp c a b pos) (up G s (wIfE ta wa wb)) := pe_weak (pe_ifExp hc ha hb) fun σ H Q ⟨an, O, ρ, Φ, S, h, q⟩ => by
  refine ⟨an, O, ρ, _, S, h, fun c H1 h1 k1 i1 => ?_⟩
  cases c with
  | true =>
    rw [if_pos rfl] at h1 ⊢
    exact ⟨an, O, ρ, Φ, S.keep k1 i1, h1, fun v2 H2 d2 p2 m2 k2 i2 => q v2 H2 d2 p2 m2 (k1.trans k2) i2⟩
  | false =>
    rw [if_neg Bool.false_ne_true] at h1 ⊢
    exact ⟨an, O, ρ, Φ, S.keep k1 i1, h1, fun v2 H2 d2 p2 m2 k2 i2 => q v2 H2 d2 p2 m2 (k1.trans k2) i2⟩
/-- the truth of a value -/
def truthD : PyData → Option Bool
  | .none => some false
  | .bool b => some b
  | .int i => some (i != 0)
  | .str x => some ((x.length : Int) != 0)
  | .list ds => some (!ds.isEmpty)
  | .tuple ds => some (!ds.isEmpty)
  | .dict _ => Option.none
def wTru (we : WE) : WT := fun ρ Φ => we ρ fun d => match d with
  | .none => Φ false
  | .bool b => Φ b
  | .int i => Φ (i != 0)
  | .str x => x.length ≤ 100000 ∧ Φ ((x.length : Int) != 0)
  | .list ds => Φ (!ds.isEmpty)
  | .tuple ds => Φ (!ds.isEmpty)
  | .dict _ => False
theorem isEmptyA {W : Wd} {N : Addr → Prop} {H : Hp} {ds : List PyData} {vs : List V} (h : ImA W N H ds vs) : vs.isEmpty = ds.isEmpty := by
  have l := ImA.length h
  cases ds <;> cases vs <;> first | rfl | (simp at l)
theorem dt_tru (hK : X.K = G.W.K) (ha : PE X a (up G s wa)) (he : ∀ whole, isTrue a X.env whole = (do let v ← whole; standAt a.pos; holding [v] (truthy v)) := by intro _; rfl) : PT X a (upT G (wTru wa)) :=
  pt_weak (pt_truth ha he) fun σ H Q ⟨an, O, ρ, Φ, S, h, q⟩ => by
    rw [hK]
    refine ⟨an, O, ρ, _, S, h, fun v H1 d h1 im k1 i1 => ?_⟩
    cases d with
    | none => cases im; exact ⟨false, rfl, q _ H1 h1 k1 i1⟩
    | bool b => cases im; exact ⟨b, rfl, q _ H1 h1 k1 i1⟩
    | int b => cases im; exact ⟨_, rfl, q _ H1 h1 k1 i1⟩
    | str b => cases im; exact ⟨_, ⟨line5 h1.1, rfl⟩, q _ H1 h1.2 k1 i1⟩
    | list ds =>
      obtain ⟨p, xs, rfl, r, n, m⟩ := im
      exact ⟨_, .inl ⟨xs, .inl (.inl r), by rw [isEmptyA m]⟩, q _ H1 h1 k1 i1⟩
    | tuple ds =>
      obtain ⟨p, xs, rfl, r, m⟩ := im
      exact ⟨_, .inr (.inl ⟨xs, r, by rw [isEmptyA m]⟩), q _ H1 h1 k1 i1⟩
    | dict ds => exact h1.elim
end
end DL

namespace DL
open PySem PySem.Spec PyProof.Rows L2

abbrev WO := Ev → (Option Int → Prop) → Prop
def upO (G : Gx) (wo : WO) : TO := fun σ H Q => ∃ (an : List (PyData × V)) (O : Nat → Option Addr) (ρ : Ev) (Φ : Option Int → Prop), Sta G an O σ H ρ ∧ wo ρ Φ ∧
  ∀ o H', Φ o → Keep G.R.M H H' → G.R.I H' → Q o H'
def wNo : WO := fun _ Φ => Φ none
def wPart (we : WE) : WO := fun ρ Φ => we ρ fun d => match d with | .int i => Φ (some i) | _ => False
def cutG {α : Type} (xs : List α) (lo hi : Option Int) : List α := (xs.drop (HT.sIx xs.length 0 lo)).take (HT.sIx xs.length xs.length hi - HT.sIx xs.length 0 lo)
theorem ImA.cut {W : Wd} {N : Addr → Prop} {H : Hp} {ds : List PyData} {vs : List V} (h : ImA W N H ds vs) (lo hi : Option Int) : ImA W N H (cutG ds lo hi) (cutV vs lo hi) := by
  unfold cutG cutV
  rw [ImA.length h]
  exact ImA.take _ (ImA.drop _ h)
def fSl : PyData → Option Int → Option Int → (PyData → Prop) → Prop := fun x lo hi Φ => match x with
  | .list ds => Φ (.list (cutG ds lo hi))
  | .tuple ds => Φ (.tuple (cutG ds lo hi))
  | .str z => z.length ≤ 100000 ∧ Φ (.str (cutS z lo hi))
  | _ => False
def wSl (we : WE) (wl wh : WO) : WE := fun ρ Φ => we ρ fun x => wl ρ fun lo => wh ρ fun hi => fSl x lo hi Φ
section
variable {X : Cx} {G : Gx} {pos p2 : Pos} {s s1 s2 : Bool} {e a b : Expr} {es : List Expr} {we wa wb wc : WE} {wr : WA} {wl wh : WO} {lo hi : Option Expr}
theorem do_none : PO X none (upO G wNo) := ⟨fun pins s σ H Q I ⟨an, O, ρ, Φ, S, h, q⟩ => po_none.run pins s σ H Q I (q none H h (Keep.refl H) S.inv)⟩
theorem do_some (h : PE X e (up G s we)) : PO X (some e) (upO G (wPart we)) := ⟨fun pins sh σ H Q I ⟨an, O, ρ, Φ, S, hw, q⟩ => by
  refine (po_some h).run pins sh σ H Q I ⟨an, O, ρ, _, S, hw, fun v H1 d h1 im k1 i1 => ?_⟩
  cases d with
  | int i => exact ⟨i, im, q _ H1 h1 k1 i1⟩
  | _ => exact h1.elim⟩
def rSlU (K : PySem.W.Frag) : V → Option Int → Option Int → Hp → VK → Prop := fun x lo hi H Q => rSlL K x lo hi H Q ∨ rSlA K x lo hi H Q ∨ rSlS x lo hi H Q
theorem sl_U : SlR X (rSlU X.K) := SlR.or sl_list (SlR.or sl_tupA sl_str)
theorem cut_whole {α : Type} {xs : List α} {lo hi : Option Int} (h : HT.sIx xs.length 0 lo = 0 ∧ HT.sIx xs.length xs.length hi = xs.length) : cutG xs lo hi = xs := by
  unfold cutG
  rw [h.1, h.2, Nat.sub_zero, List.drop_zero, List.take_length]
theorem de_sl (hK : X.K = G.W.K) (he : PE X e (up G s we)) (hl : PO X lo (upO G wl)) (hh : PO X hi (upO G wh)) : PE X (.Subscript e (.Slice lo hi none p2) pos) (up G s (wSl we wl wh)) :=
  pe_weak (pe_slice sl_U he hl hh) fun σ H Q ⟨an, O, ρ, Φ, S, h, q⟩ => by
    refine ⟨an, O, ρ, _, S, h, fun v H1 d h1 im k1 i1 => ?_⟩
    have S1 := S.keep k1 i1
    refine ⟨an, O, ρ, _, S1, h1, fun lo H2 h2 k2 i2 => ?_⟩
    have S2 := S1.keep k2 i2
    refine ⟨an, O, ρ, _, S2, h2, fun hi H3 h3 k3 i3 => ?_⟩
    have S3 := S2.keep k3 i3
    have im3 := S2.im k3 (S1.im k2 im)
    have kk := (k1.trans k2).trans k3
    rw [hK]
    unfold fSl at h3
    split at h3
    · obtain ⟨a, xs, rfl, r, n, m⟩ := im3
      exact .inl ⟨a, xs, rfl, .inl (.inl r), fun p hp => q _ _ _ h3 (S3.lst hp (ImA.cut m _ _)) (kk.trans (Keep.new hp)) (S3.newI hp)⟩
    · rename_i ds
      have im4 := im3
      obtain ⟨a, xs, rfl, r, m⟩ := im3
      refine .inr (.inl ⟨a, xs, rfl, r, fun w => ?_, fun w p hp => q _ _ _ h3 (S3.tup hp (ImA.cut m _ _)) (kk.trans (Keep.new hp)) (S3.newI hp)⟩)
      rw [ImA.length m] at w
      rw [cut_whole w] at h3
      exact q _ H3 _ h3 im4 kk i3
    · exact .inr (.inr ⟨_, im3, line5 h3.1, q _ H3 _ h3.2 rfl kk i3⟩)
    · exact h3.elim
/-- the script: its length, an item, a part -/
def wSLen (i : Nat) : WE := fun ρ Φ => match nth ρ i with | .s ns => Φ (.int ns.length) | _ => False
def wSIx (i : Nat) (wb : WE) : WE := fun ρ Φ => match nth ρ i with | .s ns => (wb ρ fun y => match y with | .int k => (∃ d, atI ns k = some d ∧ Φ (.int d)) | _ => False) | _ => False
def wSSl (i : Nat) (wl wh : WO) : WE := fun ρ Φ => match nth ρ i with | .s ns => (wl ρ fun lo => wh ρ fun hi => Φ (.list ((cutG ns lo hi).map .int))) | _ => False
theorem s_slot {an : List (PyData × V)} {O : Nat → Option Addr} {σ : L2.St} {H : Hp} {ρ : Ev} {i : Nat} (S : Sta G an O σ H ρ) {α : Type} {P : List Int → Prop} (h : match nth ρ i with | .s ns => P ns | _ => False) :
    ∃ ns a, σ[i]? = some (some (.ref a)) ∧ SqS G.W.K H a (ns.map V.int) ∧ P ns := by
  have en := S.en i
  cases hx : nth ρ i with
  | s ns =>
    rw [hx] at en h
    obtain ⟨a, e1, e2⟩ := en
    exact ⟨ns, a, e1, e2, h⟩
  | _ => rw [hx] at h; exact h.elim
theorem atI_map {α β : Type} {f : α → β} {xs : List α} {i : Int} {d : α} (h : atI xs i = some d) : atI (xs.map f) i = some (f d) := by
  unfold atI at h ⊢
  rw [List.length_map]
  cases q : ixN xs.length i with
  | none => rw [q] at h; cases h
  | some j =>
    rw [q] at h
    have h : xs[j]? = some d := h
    show (xs.map f)[j]? = some (f d)
    rw [List.getElem?_map, h]
    rfl
theorem cut_map {α β : Type} {f : α → β} {xs : List α} {lo hi : Option Int} : (cutG xs lo hi).map f = cutG (xs.map f) lo hi := by
  unfold cutG
  rw [List.map_take, List.map_drop, List.length_map]
theorem cutV_cutG {xs : List V} {lo hi : Option Int} : cutV xs lo hi = cutG xs lo hi := rfl

def CallD (G : Gx) (s s1 : Bool) (r : List V → Hp → VK → Prop) (f : List PyData → (PyData → Prop) → Prop) : Prop :=
  ∀ (an : List (PyData × V)) (O : Nat → Option Addr) (σ : L2.St) (ρ : Ev) (H : Hp) (vs : List V) (ds : List PyData) (Φ : PyData → Prop) (Q : VK), Sta G an O σ H ρ → ImA G.W (Nn G O s1) H ds vs → f ds Φ →
    (∀ v H' z, Φ z → Im G.W (Nn G O s) H' z v → Keep G.R.M H H' → G.R.I H' → Q v H') → r vs H Q
def wCall (f : List PyData → (PyData → Prop) → Prop) (wa : WA) : WE := fun ρ Φ => wa ρ fun ds => f ds Φ
theorem up_call {r : List V → Hp → VK → Prop} {f : List PyData → (PyData → Prop) → Prop} (hf : CallD G s s1 r f) (σ : L2.St) (H : Hp) (Q : VK) (h : up G s (wCall f wr) σ H Q) : tCB r (upA G s1 wr) σ H Q := by
  obtain ⟨an, O, ρ, Φ, S, h, q⟩ := h
  refine ⟨an, O, ρ, _, S, h, fun vs H1 ds h1 im k1 i1 => ?_⟩
  exact hf an O σ ρ H1 vs ds Φ Q (S.keep k1 i1) im h1 fun w H3 z hz imz k3 i3 => q w H3 z hz imz (k1.trans k3) i3
theorem de_callB {x : Str} {p : Pos} {id : String} {r : List V → Hp → VK → Prop} {f : List PyData → (PyData → Prop) → Prop} (hc : CallR X (.builtin id) r) (hf : CallD G s s1 r f) (hg : Gl X x) (hm : X.mg x = none) (hv : bootBuiltins x = some (.builtin id)) (ha : PA X (e :: es) (upA G s1 wr))
    (hn : x ≠ "__name__" := by decide) (hdb : (x == ("__debug__" : Str)) = false := by decide) (he : starEach (e :: es) X.env = (false, eval e X.env) :: starEach es X.env := by rfl) (hpl : (backTo pos (starEach es X.env)).any (·.1) = false := by rfl) :
    PE X (.Call (.Name x p) (e :: es) [] pos) (up G s (wCall f wr)) := pe_weak (pe_callB hc hg hm hv ha hn hdb he hpl) (up_call hf)
theorem de_callT {x : Str} {p : Pos} {T : String} {r : List V → Hp → VK → Prop} {f : List PyData → (PyData → Prop) → Prop} (hc : CallR X (.type T) r) (hf : CallD G s s1 r f) (hg : Gl X x) (hm : X.mg x = none) (hv : bootBuiltins x = some (.type T)) (ha : PA X (e :: es) (upA G s1 wr))
    (hn : x ≠ "__name__" := by decide) (hdb : (x == ("__debug__" : Str)) = false := by decide) (he : starEach (e :: es) X.env = (false, eval e X.env) :: starEach es X.env := by rfl) (hpl : (backTo pos (starEach es X.env)).any (·.1) = false := by rfl) :
    PE X (.Call (.Name x p) (e :: es) [] pos) (up G s (wCall f wr)) := pe_weak (pe_callTy hc hg hm hv ha hn hdb he hpl) (up_call hf)
theorem callR_or {f : Value} {r r' : List V → Hp → VK → Prop} (h : CallR X f r) (h' : CallR X f r') : CallR X f (fun vs H Q => r vs H Q ∨ r' vs H Q) := by
  intro pins s σ H vs us Q I rv hq
  rcases hq with hq | hq
  · exact h pins s σ H vs us Q I rv hq
  · exact h' pins s σ H vs us Q I rv hq
theorem im1 {W : Wd} {N : Addr → Prop} {H : Hp} {d : PyData} {vs : List V} (h : ImA W N H [d] vs) : ∃ v, vs = [v] ∧ Im W N H d v := by
  obtain ⟨v, r, e, q, z⟩ := h
  cases z
  exact ⟨v, e, q⟩
theorem im2 {W : Wd} {N : Addr → Prop} {H : Hp} {d d' : PyData} {vs : List V} (h : ImA W N H [d, d'] vs) : ∃ v v', vs = [v, v'] ∧ Im W N H d v ∧ Im W N H d' v' := by
  obtain ⟨v, r, e, q, z⟩ := h
  obtain ⟨v', rfl, q'⟩ := im1 z
  exact ⟨v, v', e, q, q'⟩
def fAbs : List PyData → (PyData → Prop) → Prop := fun ds Φ => match ds with | [.int i] => Φ (.int (if i < 0 then -i else i)) | _ => False
theorem cd_abs : CallD G s s1 (fun xs H Q => ∃ i, xs = [.int i] ∧ Q (.int (if i < 0 then -i else i)) H) fAbs := by
  intro an O σ ρ H vs ds Φ Q S hv hf q
  unfold fAbs at hf
  split at hf
  · obtain ⟨v, rfl, im⟩ := im1 hv
    cases im
    exact ⟨_, rfl, q _ H _ hf rfl (Keep.refl H) S.inv⟩
  · exact hf.elim
def fInt : List PyData → (PyData → Prop) → Prop := fun ds Φ => match ds with | [.int i] => Φ (.int i) | [.bool b] => Φ (.int (if b then 1 else 0)) | _ => False
theorem cd_int : CallD G s s1 (fun xs H Q => (∃ i, xs = [.int i] ∧ Q (.int i) H) ∨ ∃ k, xs = [.bl k] ∧ Q (.int (if k then 1 else 0)) H) fInt := by
  intro an O σ ρ H vs ds Φ Q S hv hf q
  unfold fInt at hf
  split at hf
  · obtain ⟨v, rfl, im⟩ := im1 hv
    cases im
    exact .inl ⟨_, rfl, q _ H _ hf rfl (Keep.refl H) S.inv⟩
  · obtain ⟨v, rfl, im⟩ := im1 hv
    cases im
    exact .inr ⟨_, rfl, q _ H _ hf rfl (Keep.refl H) S.inv⟩
  · exact hf.elim
def fLen : List PyData → (PyData → Prop) → Prop := fun ds Φ => match ds with | [.list xs] => Φ (.int xs.length) | [.tuple xs] => Φ (.int xs.length) | [.str z] => z.length ≤ 100000 ∧ Φ (.int z.length) | _ => False
theorem cd_len : CallD G s s1 (fun xs H Q => ∃ x n, xs = [x] ∧ LenV G.W.K x H n ∧ Q (.int n) H) fLen := by
  intro an O σ ρ H vs ds Φ Q S hv hf q
  unfold fLen at hf
  split at hf
  · obtain ⟨v, rfl, im⟩ := im1 hv
    obtain ⟨p, xs, rfl, r, n, m⟩ := im
    exact ⟨_, _, rfl, .inl ⟨xs, .inl (.inl r), rfl⟩, q _ H _ hf (by rw [ImA.length m]; rfl) (Keep.refl H) S.inv⟩
  · obtain ⟨v, rfl, im⟩ := im1 hv
    obtain ⟨p, xs, rfl, r, m⟩ := im
    exact ⟨_, _, rfl, .inr ⟨xs, r, rfl⟩, q _ H _ hf (by rw [ImA.length m]; rfl) (Keep.refl H) S.inv⟩
  · obtain ⟨v, rfl, im⟩ := im1 hv
    cases im
    exact ⟨_, _, rfl, ⟨line5 hf.1, rfl⟩, q _ H _ hf.2 rfl (Keep.refl H) S.inv⟩
  · exact hf.elim
def fTuple : List PyData → (PyData → Prop) → Prop := fun ds Φ => match ds with | [.list xs] => Φ (.tuple xs) | [.tuple xs] => Φ (.tuple xs) | _ => False
theorem cd_tuple : CallD G s s (fun xs H Q => ∃ p ys, xs = [.ref p] ∧ ((SqL G.W.K H p ys ∧ ∀ l, H l = none → Q (.ref l) (upd H l (.tup ys))) ∨ (SqT G.W.K H p ys ∧ Q (.ref p) H))) fTuple := by
  intro an O σ ρ H vs ds Φ Q S hv hf q
  unfold fTuple at hf
  split at hf
  · obtain ⟨v, rfl, im⟩ := im1 hv
    obtain ⟨p, xs, rfl, r, n, m⟩ := im
    exact ⟨p, xs, rfl, .inl ⟨.inl (.inl r), fun l hl => q _ _ _ hf (S.tup hl m) (Keep.new hl) (S.newI hl)⟩⟩
  · obtain ⟨v, rfl, im⟩ := im1 hv
    have im' := im
    obtain ⟨p, xs, rfl, r, m⟩ := im
    exact ⟨p, xs, rfl, .inr ⟨r, q _ H _ hf im' (Keep.refl H) S.inv⟩⟩
  · exact hf.elim
def fList : List PyData → (PyData → Prop) → Prop := fun ds Φ => match ds with | [.list xs] => Φ (.list xs) | [.tuple xs] => Φ (.list xs) | _ => False
theorem cd_list : CallD G s s (fun xs H Q => ∃ p ys, xs = [.ref p] ∧ (SqL G.W.K H p ys ∨ SqT G.W.K H p ys) ∧ ∀ l, H l = none → Q (.ref l) (upd H l (.lst ys))) fList := by
  intro an O σ ρ H vs ds Φ Q S hv hf q
  unfold fList at hf
  split at hf
  · obtain ⟨v, rfl, im⟩ := im1 hv
    obtain ⟨p, xs, rfl, r, n, m⟩ := im
    exact ⟨p, xs, rfl, .inl (.inl (.inl r)), fun l hl => q _ _ _ hf (S.lst hl m) (Keep.new hl) (S.newI hl)⟩
  · obtain ⟨v, rfl, im⟩ := im1 hv
    obtain ⟨p, xs, rfl, r, m⟩ := im
    exact ⟨p, xs, rfl, .inr r, fun l hl => q _ _ _ hf (S.lst hl m) (Keep.new hl) (S.newI hl)⟩
  · exact hf.elim
def fMin : List PyData → (PyData → Prop) → Prop := fun ds Φ => match ds with
  | [.int i, .int j] => Φ (.int (if j < i then j else i))
  | [.list xs] => ∃ ns : List Int, xs = ns.map .int ∧ ns ≠ [] ∧ ∀ m, m ∈ ns → (∀ y, y ∈ ns → m ≤ y) → Φ (.int m)
  | _ => False
def fMax : List PyData → (PyData → Prop) → Prop := fun ds Φ => match ds with
  | [.int i, .int j] => Φ (.int (if j > i then j else i))
  | [.list xs] => ∃ ns : List Int, xs = ns.map .int ∧ ns ≠ [] ∧ ∀ m, m ∈ ns → (∀ y, y ∈ ns → y ≤ m) → Φ (.int m)
  | _ => False
theorem cd_min : CallD G s s1 (fun vs H Q => (∃ i j, vs = [.int i, .int j] ∧ Q (.int (if j < i then j else i)) H) ∨ rMin G.W.K vs H Q) fMin := by
  intro an O σ ρ H vs ds Φ Q S hv hf q
  unfold fMin at hf
  split at hf
  · obtain ⟨v, v', rfl, h1, h2⟩ := im2 hv
    cases h1
    cases h2
    exact .inl ⟨_, _, rfl, q _ H _ hf rfl (Keep.refl H) S.inv⟩
  · obtain ⟨v, rfl, im⟩ := im1 hv
    obtain ⟨p, xs, rfl, r, n, m⟩ := im
    obtain ⟨ns, rfl, ne, hf⟩ := hf
    have e := ImA.ints m
    subst e
    exact .inr ⟨p, ns, rfl, .inl (.inl r), List.length_pos_iff.mpr ne, fun k hk hle => q _ H _ (hf k hk hle) rfl (Keep.refl H) S.inv⟩
  · exact hf.elim
theorem cd_max : CallD G s s1 (fun vs H Q => (∃ i j, vs = [.int i, .int j] ∧ Q (.int (if j > i then j else i)) H) ∨ rMax G.W.K vs H Q) fMax := by
  intro an O σ ρ H vs ds Φ Q S hv hf q
  unfold fMax at hf
  split at hf
  · obtain ⟨v, v', rfl, h1, h2⟩ := im2 hv
    cases h1
    cases h2
    exact .inl ⟨_, _, rfl, q _ H _ hf rfl (Keep.refl H) S.inv⟩
  · obtain ⟨v, rfl, im⟩ := im1 hv
    obtain ⟨p, xs, rfl, r, n, m⟩ := im
    obtain ⟨ns, rfl, ne, hf⟩ := hf
    have e := ImA.ints m
    subst e
    exact .inr ⟨p, ns, rfl, .inl (.inl r), List.length_pos_iff.mpr ne, fun k hk hle => q _ H _ (hf k hk hle) rfl (Keep.refl H) S.inv⟩
  · exact hf.elim
def fSum : List PyData → (PyData → Prop) → Prop := fun ds Φ => match ds with | [.list xs] => ∃ ns : List Int, xs = ns.map .int ∧ Φ (.int ns.sum) | _ => False
theorem cd_sum : CallD G s s1 (rSum G.W.K) fSum := by
  intro an O σ ρ H vs ds Φ Q S hv hf q
  unfold fSum at hf
  split at hf
  · obtain ⟨v, rfl, im⟩ := im1 hv
    obtain ⟨p, xs, rfl, r, n, m⟩ := im
    obtain ⟨ns, rfl, hf⟩ := hf
    have e := ImA.ints m
    subst e
    exact ⟨p, ns, rfl, .inl (.inl r), q _ H _ hf rfl (Keep.refl H) S.inv⟩
  · exact hf.elim
def fAny : List PyData → (PyData → Prop) → Prop := fun ds Φ => match ds with | [.list xs] => ∃ bs : List Bool, xs = bs.map .bool ∧ Φ (.bool (bs.any id)) | _ => False
def fAll : List PyData → (PyData → Prop) → Prop := fun ds Φ => match ds with | [.list xs] => ∃ bs : List Bool, xs = bs.map .bool ∧ Φ (.bool (bs.all id)) | _ => False
theorem cd_any : CallD G s s1 (rAny G.W.K) fAny := by
  intro an O σ ρ H vs ds Φ Q S hv hf q
  unfold fAny at hf
  split at hf
  · obtain ⟨v, rfl, im⟩ := im1 hv
    obtain ⟨p, xs, rfl, r, n, m⟩ := im
    obtain ⟨ns, rfl, hf⟩ := hf
    have e := ImA.bools m
    subst e
    exact ⟨p, ns, rfl, .inl (.inl r), q _ H _ hf rfl (Keep.refl H) S.inv⟩
  · exact hf.elim
theorem cd_all : CallD G s s1 (rAll G.W.K) fAll := by
  intro an O σ ρ H vs ds Φ Q S hv hf q
  unfold fAll at hf
  split at hf
  · obtain ⟨v, rfl, im⟩ := im1 hv
    obtain ⟨p, xs, rfl, r, n, m⟩ := im
    obtain ⟨ns, rfl, hf⟩ := hf
    have e := ImA.bools m
    subst e
    exact ⟨p, ns, rfl, .inl (.inl r), q _ H _ hf rfl (Keep.refl H) S.inv⟩
  · exact hf.elim
def fSortI : List PyData → (PyData → Prop) → Prop := fun ds Φ => match ds with | [.list xs] => ∃ ns : List Int, xs = ns.map .int ∧ ∀ ns' : List Int, ns'.Perm ns → ns'.Pairwise (· ≤ ·) → Φ (.list (ns'.map .int)) | _ => False
theorem cd_sortI : CallD G s s1 (rSortedI G.W.K) fSortI := by
  intro an O σ ρ H vs ds Φ Q S hv hf q
  unfold fSortI at hf
  split at hf
  · obtain ⟨v, rfl, im⟩ := im1 hv
    obtain ⟨p, xs, rfl, r, n, m⟩ := im
    obtain ⟨ns, rfl, hf⟩ := hf
    have e := ImA.ints m
    subst e
    exact ⟨p, ns, rfl, .inl (.inl r), fun ns' l h1 h2 hl => q _ _ _ (hf ns' h1 h2) (S.lst hl (ImA.of_ints ns')) (Keep.new hl) (S.newI hl)⟩
  · exact hf.elim
def fGcd : List PyData → (PyData → Prop) → Prop := fun ds Φ => match ds with | [.int a, .int b] => Φ (.int ((Nat.gcd a.natAbs b.natAbs : Nat) : Int)) | _ => False
theorem cd_gcd : CallD G s s1 rGcd fGcd := by
  intro an O σ ρ H vs ds Φ Q S hv hf q
  unfold fGcd at hf
  split at hf
  · obtain ⟨v, v', rfl, h1, h2⟩ := im2 hv
    cases h1
    cases h2
    exact ⟨_, _, rfl, q _ H _ hf rfl (Keep.refl H) S.inv⟩
  · exact hf.elim
/-- f(e, ..), f a module's name for a built-in function -/
theorem de_callG {x : Str} {p : Pos} {id : String} {r : List V → Hp → VK → Prop} {f : List PyData → (PyData → Prop) → Prop} (hc : CallR X (.builtin id) r) (hf : CallD G s s1 r f) (hg : Gl X x) (hm : X.mg x = some (.builtin id)) (ha : PA X (e :: es) (upA G s1 wr))
    (hdb : (x == ("__debug__" : Str)) = false := by decide) (he : starEach (e :: es) X.env = (false, eval e X.env) :: starEach es X.env := by rfl) (hpl : (backTo pos (starEach es X.env)).any (·.1) = false := by rfl) :
    PE X (.Call (.Name x p) (e :: es) [] pos) (up G s (wCall f wr)) := pe_weak (pe_callBfun hc hg hm ha hdb he hpl) (up_call hf)

def tyD : PyData → String
  | .none => "NoneType"
  | .bool _ => "bool"
  | .int _ => "int"
  | .str _ => "str"
  | .list _ => "list"
  | .tuple _ => "tuple"
  | .dict _ => "dict"
theorem tyX {K : PySem.W.Frag} {kc : List Str → Addr} {N : Addr → Prop} {H : Hp} : ∀ {d : PyData} {v : V}, (∀ k, d = .dict k → k = []) → Im ⟨K, kc⟩ N H d v → TyX K H v (.type (tyD d))
  | .none, _, _, h => by cases h; exact .base .non
  | .bool _, _, _, h => by cases h; exact .base (.bl _)
  | .int _, _, _, h => by cases h; exact .base (.int _)
  | .str _, _, _, h => by cases h; exact .base (.str _)
  | .list _, _, _, h => by obtain ⟨a, xs, rfl, r, _⟩ := h; exact .base (.lst r)
  | .tuple _, _, _, h => by
    obtain ⟨a, xs, rfl, r, _⟩ := h
    rcases r with (r | ⟨o, r⟩) | ⟨o, its, n, e, c, _⟩
    · exact .base (.tup r)
    · exact .fTuple r
    · exact .kTuple e c
  | .dict k, _, n, h => by
    obtain rfl := n k rfl
    rcases h with ⟨a, rfl, _, hh⟩ | ⟨_, _, _, _, _, _, _, z⟩
    · rcases hh with ⟨_, r⟩ | ⟨z, _⟩
      · exact .base (.dK r)
      · exact absurd rfl z
    · exact False.elim z
def fIsi (T : String) : PyData → (PyData → Prop) → Prop := fun d Φ => ∃ b, kitB (tyD d) T = some b ∧ (∀ k, d = .dict k → k = []) ∧ Φ (.bool b)
def wIsi (Ts : String) (wa : WE) : WE := fun ρ Φ => wa ρ fun d => fIsi Ts d Φ
theorem de_isi {x T : Str} {Ts : String} {p p' : Pos} (hK : X.K = G.W.K) (hg : Gl X x) (hm : X.mg x = none) (hv : bootBuiltins x = some (.builtin "isinstance")) (ha : PE X a (up G s1 wa)) (hg2 : Gl X T) (hm2 : X.mg T = none) (hv2 : bootBuiltins T = some (.type Ts))
    (hn : x ≠ "__name__" := by decide) (hdb : (x == ("__debug__" : Str)) = false := by decide) (hn2 : T ≠ "__name__" := by decide) (hdb2 : (T == ("__debug__" : Str)) = false := by decide)
    (he : starEach [a, .Name T p'] X.env = (false, eval a X.env) :: starEach [.Name T p'] X.env := by rfl) (hpl : (backTo pos (starEach [.Name T p'] X.env)).any (·.1) = false := by rfl) :
    PE X (.Call (.Name x p) [a, .Name T p'] [] pos) (up G s (wIsi Ts wa)) :=
  pe_weak (pe_callB call_isi hg hm hv (pa_cons ha (pa_cons (pe_bltn (v := .ty Ts) hg2 hm2 hv2 rfl hn2 hdb2) pa_nil) he) hn hdb he hpl) fun σ H Q ⟨an, O, ρ, Φ, S, h, q⟩ => by
    refine ⟨an, O, ρ, _, S, h, fun v H1 d h1 im k1 i1 => ?_⟩
    obtain ⟨b, hb, nd, hp⟩ := h1
    refine ⟨v, .ty Ts, .type (tyD d), .type Ts, b, rfl, .ty Ts, ?_, kit_ty hb, q _ H1 _ hp rfl k1 i1⟩
    rw [hK]
    exact tyX nd im
end
end DL

namespace DL
open PySem PySem.Spec PyProof.Rows L2

abbrev WI := Ev → (List PyData → Prop) → Prop
/-- the iterator J yields ds wherever the sources stand -/
def SrcV (W : Wd) (J : It) (ds : List PyData) (src : List (PyData × V)) : Prop :=
  ∀ (N : Addr → Prop) (H : Hp) (i : Nat), (∀ p ∈ src, Im W N H p.1 p.2) →
    (i < ds.length → J.go i H ∧ ∀ x H', J.yld i H x H' → Keep (fun _ => False) H H' ∧ ∀ e, ds[i]? = some e → Im W N H' e x) ∧ (ds.length ≤ i → J.stop i H)
def upI (G : Gx) (s : Bool) (wi : WI) : TI := fun σ H R => ∃ (an : List (PyData × V)) (O : Nat → Option Addr) (ρ : Ev) (Φ : List PyData → Prop), Sta G an O σ H ρ ∧ wi ρ Φ ∧
  ∀ J H' ds src, Φ ds → SrcV G.W J ds src → (∀ p ∈ src, Im G.W (Nn G O s) H' p.1 p.2) → Keep G.R.M H H' → G.R.I H' → R J H'
def wSeqI (we : WE) : WI := fun ρ Φ => we ρ fun d => match d with | .list ds => Φ ds | .tuple ds => Φ ds | _ => False
section
variable {X : Cx} {G : Gx} {pos : Pos} {s s1 s2 : Bool} {e a b tg : Expr} {es : List Expr} {we wa wb wc : WE} {wr : WA} {wi : WI}
theorem pi_weak {t t' : TI} (h : PI X tg e t) (k : ∀ σ H R, t' σ H R → t σ H R) : PI X tg e t' := ⟨fun pins s σ H R I q => h.run pins s σ H R I (k σ H R q)⟩
theorem src_list {W : Wd} {ds : List PyData} {v : V} {a : Addr} (e : v = .ref a) : SrcV W (Itl W.K a) ds [(.list ds, v)] := fun N H i hp => by
  obtain ⟨p, xs, e1, r, n, m⟩ := hp _ List.mem_cons_self
  rw [e] at e1
  cases e1
  have l := ImA.length m
  have sq : SqL W.K H a xs := .inl (.inl r)
  refine ⟨fun hi => ⟨⟨xs, xs[i]'(by omega), sq, List.getElem?_eq_getElem (by omega)⟩, fun x H' y => ?_⟩, fun hi => ⟨xs, sq, by omega⟩⟩
  obtain ⟨rfl, y⟩ := y
  refine ⟨Keep.refl _, fun d hd => ?_⟩
  obtain ⟨w, hw, iw⟩ := ImA.get m hd
  have := (y xs sq).symm.trans hw
  cases this
  exact iw
theorem src_tup {W : Wd} {ds : List PyData} {v : V} {a : Addr} (e : v = .ref a) : SrcV W (Itt W.K a) ds [(.tuple ds, v)] := fun N H i hp => by
  obtain ⟨p, xs, e1, r, m⟩ := hp _ List.mem_cons_self
  rw [e] at e1
  cases e1
  have l := ImA.length m
  refine ⟨fun hi => ⟨⟨xs, xs[i]'(by omega), r, List.getElem?_eq_getElem (by omega)⟩, fun x H' y => ?_⟩, fun hi => ⟨xs, r, by omega⟩⟩
  obtain ⟨rfl, y⟩ := y
  refine ⟨Keep.refl _, fun d hd => ?_⟩
  obtain ⟨w, hw, iw⟩ := ImA.get m hd
  have := (y xs r).symm.trans hw
  cases this
  exact iw
def wListI (we : WE) : WI := fun ρ Φ => we ρ fun d => match d with | .list ds => Φ ds | _ => False
def wTupI (we : WE) : WI := fun ρ Φ => we ρ fun d => match d with | .tuple ds => Φ ds | _ => False
theorem di_list (hK : X.K = G.W.K) (h : PE X e (up G s we)) : PI X tg e (upI G s (wListI we)) := pi_weak (pi_list h) fun σ H R ⟨an, O, ρ, Φ, S, hw, q⟩ => by
  rw [hK]
  refine ⟨an, O, ρ, _, S, hw, fun v H1 d h1 im k1 i1 => ?_⟩
  cases d with
  | list ds =>
    obtain ⟨a, xs, rfl, r, n, m⟩ := id im
    refine ⟨a, rfl, ⟨xs, .inl (.inl r)⟩, q _ H1 ds _ h1 (src_list rfl) (fun p hp => ?_) k1 i1⟩
    rw [List.mem_singleton.mp hp]
    exact im
  | _ => exact h1.elim
theorem di_tup (hK : X.K = G.W.K) (h : PE X e (up G s we)) : PI X tg e (upI G s (wTupI we)) := pi_weak (pi_tup h) fun σ H R ⟨an, O, ρ, Φ, S, hw, q⟩ => by
  rw [hK]
  refine ⟨an, O, ρ, _, S, hw, fun v H1 d h1 im k1 i1 => ?_⟩
  cases d with
  | tuple ds =>
    obtain ⟨a, xs, rfl, r, m⟩ := id im
    refine ⟨a, rfl, ⟨xs, r⟩, q _ H1 ds _ h1 (src_tup rfl) (fun p hp => ?_) k1 i1⟩
    rw [List.mem_singleton.mp hp]
    exact im
  | _ => exact h1.elim
/-- lo, lo + 1, .. -/
def intsFrom (lo : Int) (n : Nat) : List PyData := (List.range n).map fun i => .int (lo + (i : Nat))
theorem intsFrom_get {lo : Int} {n i : Nat} {e : PyData} (h : (intsFrom lo n)[i]? = some e) : e = .int (lo + (i : Nat)) := by
  unfold intsFrom at h
  rw [List.getElem?_map] at h
  cases q : (List.range n)[i]? with
  | none => rw [q] at h; cases h
  | some j =>
    rw [q] at h
    have hl : i < (List.range n).length := (List.getElem?_eq_some_iff.mp q).1
    have e2 : j = i := by
      have z := (List.getElem?_eq_some_iff.mp q).2
      rw [List.getElem_range] at z
      exact z.symm
    cases h
    rw [e2]
theorem intsFrom_len {lo : Int} {n : Nat} : (intsFrom lo n).length = n := by unfold intsFrom; rw [List.length_map, List.length_range]
theorem src_rng {W : Wd} {lo : Int} {n : Nat} : SrcV W (Itr lo n) (intsFrom lo n) [] := fun N H i _ => by
  rw [intsFrom_len]
  refine ⟨fun hi => ⟨hi, fun x H' y => ?_⟩, fun hi => hi⟩
  obtain ⟨rfl, rfl⟩ := y
  exact ⟨Keep.refl _, fun e he => by rw [intsFrom_get he]; rfl⟩
def wRng1 (we : WA) : WI := fun ρ Φ => we ρ fun ds => match ds with | [.int j] => -(2 ^ 60) < j ∧ j < 2 ^ 60 ∧ Φ (intsFrom 0 j.toNat) | _ => False
def wRng2 (we : WA) : WI := fun ρ Φ => we ρ fun ds => match ds with | [.int i, .int j] => (-(2 ^ 60) < i ∧ i < 2 ^ 60 ∧ -(2 ^ 60) < j ∧ j < 2 ^ 60) ∧ Φ (intsFrom i (j - i).toNat) | _ => False
end
end DL

namespace DL
open PySem PySem.Spec PyProof.Rows L2

section
variable {X : Cx} {G : Gx} {pos : Pos} {s s1 s2 : Bool} {e a b tg : Expr} {es : List Expr} {we wa wb wc : WE} {wr : WA} {wi : WI}
theorem di_rng1 {p : Pos} (hg : Gl X "range") (hm : X.mg "range" = none) (ha : PA X [a] (upA G s1 wr)) (hs : starEach [a] X.env = [(false, eval a X.env)] := by rfl) :
    PI X tg (.Call (.Name "range" p) [a] [] pos) (upI G s (wRng1 wr)) :=
  pi_weak (pi_range1 hg hm ha hs) fun σ H R ⟨an, O, ρ, Φ, S, h, q⟩ => by
    refine ⟨an, O, ρ, _, S, h, fun vs H1 ds h1 im k1 i1 => ?_⟩
    split at h1
    · rename_i j
      obtain ⟨v, rfl, iv⟩ := im1 im
      obtain rfl : v = .int j := iv
      exact ⟨j, rfl, by omega, by omega, q _ H1 _ [] h1.2.2 src_rng (fun p hp => nomatch hp) k1 i1⟩
    · exact h1.elim
theorem di_rng2 {p : Pos} (hg : Gl X "range") (hm : X.mg "range" = none) (ha : PA X [a, b] (upA G s1 wr)) (hs : starEach [a, b] X.env = [(false, eval a X.env), (false, eval b X.env)] := by rfl) (hs2 : starEach [b] X.env = [(false, eval b X.env)] := by rfl) :
    PI X tg (.Call (.Name "range" p) [a, b] [] pos) (upI G s (wRng2 wr)) :=
  pi_weak (pi_range2 hg hm ha hs hs2) fun σ H R ⟨an, O, ρ, Φ, S, h, q⟩ => by
    refine ⟨an, O, ρ, _, S, h, fun vs H1 ds h1 im k1 i1 => ?_⟩
    split at h1
    · rename_i i j
      obtain ⟨v, v', rfl, m1, m2⟩ := im2 im
      obtain rfl : v = .int i := m1
      obtain rfl : v' = .int j := m2
      obtain ⟨⟨z1, z2, z3, z4⟩, h1⟩ := h1
      exact ⟨i, j, rfl, ⟨by omega, by omega, by omega, by omega⟩, q _ H1 _ [] h1 src_rng (fun p hp => nomatch hp) k1 i1⟩
    · exact h1.elim

def setO (O : Nat → Option Addr) (i : Nat) (p : Option Addr) : Nat → Option Addr := fun j => if j = i then p else O j
theorem setO_same {O : Nat → Option Addr} {i : Nat} {p : Option Addr} : setO O i p i = p := by unfold setO; rw [if_pos rfl]
theorem setO_ne {O : Nat → Option Addr} {i j : Nat} {p : Option Addr} (h : j ≠ i) : setO O i p j = O j := by unfold setO; rw [if_neg h]
variable {an : List (PyData × V)} {O : Nat → Option Addr} {σ : L2.St} {H H' : Hp} {ρ : Ev}
/-- less to be avoided -/
theorem Sta.sub {O' : Nat → Option Addr} (S : Sta G an O σ H ρ) (h : ∀ i p, O' i = some p → O i = some p) {d : PyData} {v : V} (im : Im G.W (Nv G.A O) H d v) : Im G.W (Nv G.A O') H d v :=
  Im.avoid (fun a o _ z => z.elim .inl fun ⟨i, e⟩ => .inr ⟨i, h i a e⟩) d v im
theorem Sta.subA {O' : Nat → Option Addr} (S : Sta G an O σ H ρ) (h : ∀ i p, O' i = some p → O i = some p) {d : List PyData} {v : List V} (im : ImA G.W (Nv G.A O) H d v) : ImA G.W (Nv G.A O') H d v :=
  ImA.avoid (fun a o _ z => z.elim .inl fun ⟨i, e⟩ => .inr ⟨i, h i a e⟩) d v im
/-- slot i gets a value -/
theorem Sta.setD (S : Sta G an O σ H ρ) (i : Nat) {d : PyData} {v : V} (im : Im G.W (Nv G.A O) H d v) : Sta G an (setO O i none) (σ.set i (some v)) H (put ρ i (.d d)) := by
  have hs : ∀ j p, setO O i none j = some p → O j = some p ∧ j ≠ i := fun j p e => by
    by_cases z : j = i
    · rw [z, setO_same] at e; cases e
    · rw [setO_ne z] at e; exact ⟨e, z⟩
  have hsub : ∀ j p, setO O i none j = some p → O j = some p := fun j p e => (hs j p e).1
  refine ⟨S.inv, S.kp, S.al, S.ra, fun j p e => S.fr j p (hsub j p e), fun j k p e1 e2 => S.oi j k p (hsub j p e1) (hsub k p e2), ?_, fun j p e => ?_, by rw [List.length_set, put_len, S.len], fun j => ?_, fun p hp => S.sub hsub (S.as p hp)⟩
  · obtain ⟨b, hb⟩ := S.ob
    refine ⟨b, fun j hj => ?_⟩
    by_cases z : j = i
    · rw [z, setO_same]
    · rw [setO_ne z]; exact hb j hj
  · obtain ⟨e1, z⟩ := hs j p e
    rw [put_len, nth_put_ne z]
    exact S.oe j p e1
  · by_cases z : j = i
    · rw [z]
      by_cases hl : i < ρ.length
      · rw [nth_put_same hl]
        refine ⟨v, ?_, S.sub hsub im⟩
        rw [List.getElem?_set_self (by rw [S.len]; exact hl)]
      · rw [nth_out (by rw [put_len]; omega)]
        trivial
    · rw [nth_put_ne z]
      have en := S.en j
      cases hx : nth ρ j with
      | u => trivial
      | d x =>
        rw [hx] at en
        obtain ⟨w, e1, m⟩ := en
        exact ⟨w, by rw [List.getElem?_set_ne (Ne.symm z)]; exact e1, S.sub hsub m⟩
      | o xs =>
        rw [hx] at en
        obtain ⟨p, vs, e1, e2, e3, m⟩ := en
        exact ⟨p, vs, by rw [List.getElem?_set_ne (Ne.symm z)]; exact e1, by rw [setO_ne z]; exact e2, e3, S.subA hsub m⟩
      | m =>
        rw [hx] at en
        show (σ.set i (some v))[j]? = _
        rw [List.getElem?_set_ne (Ne.symm z)]
        exact en
      | s ns =>
        rw [hx] at en
        obtain ⟨p, e1, e2⟩ := en
        exact ⟨p, by rw [List.getElem?_set_ne (Ne.symm z)]; exact e1, e2⟩
/-- a new object's address joins the avoided ones at the place j -/
theorem Sta.own (S : Sta G an O σ H ρ) {p : Addr} {vs : List V} (hp : H p = none) (hH : H' p = some (.lst vs)) (k : Keep G.R.M H H') (hi : G.R.I H') (j : Nat) (hj : ρ.length ≤ j) : Sta G an (setO O j (some p)) σ H' ρ := by
  have hO : ∀ xs, nth ρ j ≠ .o xs := fun xs z => by rw [nth_out hj] at z; cases z
  have S' := S.keep k hi
  have np : ∀ i, O i ≠ some p := fun i e => by
    obtain ⟨_, xs, q⟩ := S.fr i p e
    rw [hp] at q
    cases q
  -- data of H do not lean on p
  have av : ∀ {d : PyData} {v : V}, Im G.W (Nv G.A O) H d v → Im G.W (Nv G.A (setO O j (some p))) H d v := fun {d v} m => Im.avoid (fun a o e z => by
    rcases z with z | ⟨i, z⟩
    · exact .inl z
    · by_cases q : i = j
      · rw [q, setO_same] at z
        cases z
        rw [hp] at e
        cases e
      · rw [setO_ne q] at z
        exact .inr ⟨i, z⟩) d v m
  have avA : ∀ {d : List PyData} {v : List V}, ImA G.W (Nv G.A O) H d v → ImA G.W (Nv G.A (setO O j (some p))) H d v := fun {d v} m => ImA.avoid (fun a o e z => by
    rcases z with z | ⟨i, z⟩
    · exact .inl z
    · by_cases q : i = j
      · rw [q, setO_same] at z
        cases z
        rw [hp] at e
        cases e
      · rw [setO_ne q] at z
        exact .inr ⟨i, z⟩) d v m
  have kN : Keep (Nv G.A (setO O j (some p))) H H' := k.mono fun a m => .inl (S.ra a m)
  refine ⟨hi, S'.kp, S.al, S.ra, fun i q e => ?_, fun i l q e1 e2 => ?_, ?_, fun i q e => ?_, S.len, fun i => ?_, fun q hq => Im.keep kN _ _ (av (S.as q hq))⟩
  · by_cases z : i = j
    · rw [z, setO_same] at e
      cases e
      exact ⟨S.fresh0 hp, vs, hH⟩
    · rw [setO_ne z] at e
      exact S'.fr i q e
  · by_cases z1 : i = j
    · by_cases z2 : l = j
      · rw [z1, z2]
      · rw [z1, setO_same] at e1
        rw [setO_ne z2] at e2
        cases e1
        exact absurd e2 (np l)
    · rw [setO_ne z1] at e1
      by_cases z2 : l = j
      · rw [z2, setO_same] at e2
        cases e2
        exact absurd e1 (np i)
      · rw [setO_ne z2] at e2
        exact S.oi i l q e1 e2
  · obtain ⟨b, hb⟩ := S.ob
    refine ⟨max b (j + 1), fun i hi => ?_⟩
    have h1 : i ≠ j := by omega
    rw [setO_ne h1]
    exact hb i (by omega)
  · by_cases z : i = j
    · exact .inl (by omega)
    · rw [setO_ne z] at e
      exact S.oe i q e
  · have en := S.en i
    cases hx : nth ρ i with
    | u => trivial
    | d x =>
      rw [hx] at en
      obtain ⟨w, e1, m⟩ := en
      exact ⟨w, e1, Im.keep kN _ _ (av m)⟩
    | o xs =>
      rw [hx] at en
      obtain ⟨q, ws, e1, e2, e3, m⟩ := en
      have z : i ≠ j := fun z => hO xs (z ▸ hx)
      refine ⟨q, ws, e1, by rw [setO_ne z]; exact e2, k.ob q _ e3 fun m => ?_, ImA.keep kN _ _ (avA m)⟩
      obtain ⟨o, y⟩ := S.al q (S.ra q m)
      rw [(S.fr i q e2).1] at y
      cases y
    | m => rw [hx] at en; exact en
    | s ns =>
      rw [hx] at en
      obtain ⟨q, e1, e2⟩ := en
      exact ⟨q, e1, e2.keep k⟩
/-- slot i takes a new list -/
theorem Sta.take (S : Sta G an O σ H ρ) {p : Addr} {j : Nat} {ws : List V} {ds : List PyData} (i : Nat) (hj : ρ.length ≤ j) (hO : O j = some p) (hH : H p = some (.lst ws))
    (im : ImA G.W (Nv G.A O) H ds ws) (hi : i < ρ.length) : Sta G an (setO (setO O j none) i (some p)) (σ.set i (some (.ref p))) H (put ρ i (.o ds)) := by
  have hij : i ≠ j := by omega
  have hs : ∀ l q, setO (setO O j none) i (some p) l = some q → (l = i ∧ q = p) ∨ (l ≠ i ∧ l ≠ j ∧ O l = some q) := fun l q e => by
    by_cases z : l = i
    · rw [z, setO_same] at e
      cases e
      exact .inl ⟨z, rfl⟩
    · rw [setO_ne z] at e
      by_cases y : l = j
      · rw [y, setO_same] at e; cases e
      · rw [setO_ne y] at e; exact .inr ⟨z, y, e⟩
  have sub : ∀ a, Nv G.A (setO (setO O j none) i (some p)) a → Nv G.A O a := fun a z => by
    rcases z with z | ⟨l, z⟩
    · exact .inl z
    · rcases hs l a z with ⟨_, y⟩ | ⟨_, _, y⟩
      · rw [y]; exact .inr ⟨j, hO⟩
      · exact .inr ⟨l, y⟩
  refine ⟨S.inv, S.kp, S.al, S.ra, fun l q e => ?_, fun l m q e1 e2 => ?_, ?_, fun l q e => ?_, by rw [List.length_set, put_len, S.len], fun l => ?_, fun q hq => Im.avoid (fun a o _ z => sub a z) _ _ (S.as q hq)⟩
  · rcases hs l q e with ⟨_, y⟩ | ⟨_, _, y⟩
    · rw [y]; exact S.fr j p hO
    · exact S.fr l q y
  · rcases hs l q e1 with ⟨z1, y1⟩ | ⟨z1, w1, y1⟩
    · rcases hs m q e2 with ⟨z2, y2⟩ | ⟨z2, w2, y2⟩
      · rw [z1, z2]
      · rw [y1] at y2
        exact absurd (S.oi m j p y2 hO) w2
    · rcases hs m q e2 with ⟨z2, y2⟩ | ⟨z2, w2, y2⟩
      · rw [y2] at y1
        exact absurd (S.oi l j p y1 hO) w1
      · exact S.oi l m q y1 y2
  · obtain ⟨b, hb⟩ := S.ob
    refine ⟨max b (i + 1), fun l hl => ?_⟩
    rw [setO_ne (by omega)]
    by_cases y : l = j
    · rw [y, setO_same]
    · rw [setO_ne y]; exact hb l (by omega)
  · rw [put_len]
    rcases hs l q e with ⟨z, y⟩ | ⟨z, w, y⟩
    · exact .inr ⟨ds, by rw [z, nth_put_same hi]⟩
    · rw [nth_put_ne z]; exact S.oe l q y
  · by_cases z : l = i
    · rw [z, nth_put_same hi]
      exact ⟨p, ws, by rw [List.getElem?_set_self (by rw [S.len]; exact hi)], setO_same, hH, ImA.avoid (fun a o _ z => sub a z) _ _ im⟩
    · rw [nth_put_ne z]
      have en := S.en l
      cases hx : nth ρ l with
      | u => trivial
      | d x =>
        rw [hx] at en
        obtain ⟨w, e1, m⟩ := en
        exact ⟨w, by rw [List.getElem?_set_ne (Ne.symm z)]; exact e1, Im.avoid (fun a o _ z => sub a z) _ _ m⟩
      | o xs =>
        rw [hx] at en
        obtain ⟨q, us, e1, e2, e3, m⟩ := en
        have lj : l ≠ j := fun y => by
          rw [nth_out (by omega)] at hx; cases hx
        exact ⟨q, us, by rw [List.getElem?_set_ne (Ne.symm z)]; exact e1, by rw [setO_ne z, setO_ne lj]; exact e2, e3, ImA.avoid (fun a o _ z => sub a z) _ _ m⟩
      | m =>
        rw [hx] at en
        show (σ.set i (some (V.ref p)))[l]? = _
        rw [List.getElem?_set_ne (Ne.symm z)]
        exact en
      | s ns =>
        rw [hx] at en
        obtain ⟨q, e1, e2⟩ := en
        exact ⟨q, by rw [List.getElem?_set_ne (Ne.symm z)]; exact e1, e2⟩
/-- slot i gets a new list of one's own -/
theorem Sta.setN (S : Sta G an O σ H ρ) {p : Addr} {vs : List V} {ds : List PyData} (hp : H p = none) (hH : H' p = some (.lst vs)) (k : Keep G.R.M H H') (hi : G.R.I H') (i : Nat)
    (im : ImA G.W (fun a => Nv G.A O a ∨ a = p) H' ds vs) : ∃ O', Sta G an O' (σ.set i (some (.ref p))) H' (put ρ i (.o ds)) := by
  by_cases hl : i < ρ.length
  · obtain ⟨bd, hbd⟩ := S.ob
    have hj := hbd _ (Nat.le_max_left bd ρ.length)
    have S1 := S.own hp hH k hi (max bd ρ.length) (Nat.le_max_right _ _)
    refine ⟨_, S1.take i (Nat.le_max_right _ _) setO_same hH (ImA.avoid (fun a o _ z => ?_) _ _ im) hl⟩
    rcases z with z | ⟨l, z⟩
    · exact .inl (.inl z)
    · by_cases y : l = max bd ρ.length
      · rw [y, setO_same] at z; cases z; exact .inr rfl
      · rw [setO_ne y] at z; exact .inl (.inr ⟨l, z⟩)
  · have e1 : put ρ i (.o ds) = ρ := put_out (by omega)
    have e2 : σ.set i (some (V.ref p)) = σ := by
      refine List.ext_getElem? fun j => ?_
      by_cases z : i = j
      · rw [← z, List.getElem?_eq_none (by rw [List.length_set, S.len]; omega), List.getElem?_eq_none (by rw [S.len]; omega)]
      · rw [List.getElem?_set_ne z]
    rw [e1, e2]
    exact ⟨O, S.keep k hi⟩
/-- a list of one's own becomes a value -/
theorem Sta.frz (S : Sta G an O σ H ρ) {i : Nat} {ds : List PyData} (h : nth ρ i = .o ds) : Sta G an (setO O i none) σ H (put ρ i (.d (.list ds))) := by
  have hs : ∀ j p, setO O i none j = some p → O j = some p := fun j p e => by
    by_cases z : j = i
    · rw [z, setO_same] at e; cases e
    · rw [setO_ne z] at e; exact e
  have en := S.en i
  rw [h] at en
  obtain ⟨p, vs, e1, e2, e3, m⟩ := en
  have hl : i < ρ.length := Nat.lt_of_not_le fun z => by rw [nth_out z] at h; cases h
  have im : Im G.W (Nv G.A (setO O i none)) H (.list ds) (.ref p) := ⟨p, vs, rfl, e3, fun z => by
    rcases z with z | ⟨l, z⟩
    · obtain ⟨o, y⟩ := S.al p z
      rw [(S.fr i p e2).1] at y
      cases y
    · by_cases q : l = i
      · rw [q, setO_same] at z; cases z
      · rw [setO_ne q] at z
        exact q (S.oi l i p z e2), S.subA hs m⟩
  refine ⟨S.inv, S.kp, S.al, S.ra, fun j q e => S.fr j q (hs j q e), fun j l q x y => S.oi j l q (hs j q x) (hs l q y), ?_, fun j q e => ?_, by rw [put_len, S.len], fun j => ?_, fun q hq => S.sub hs (S.as q hq)⟩
  · obtain ⟨b, hb⟩ := S.ob
    refine ⟨b, fun j hj => ?_⟩
    by_cases z : j = i
    · rw [z, setO_same]
    · rw [setO_ne z]; exact hb j hj
  · have z : j ≠ i := fun z => by rw [z, setO_same] at e; cases e
    rw [put_len, nth_put_ne z]
    exact S.oe j q (hs j q e)
  · by_cases z : j = i
    · rw [z, nth_put_same hl]
      exact ⟨_, e1, im⟩
    · rw [nth_put_ne z]
      have en := S.en j
      cases hx : nth ρ j with
      | u => trivial
      | d x =>
        rw [hx] at en
        obtain ⟨w, e1, m⟩ := en
        exact ⟨w, e1, S.sub hs m⟩
      | o xs =>
        rw [hx] at en
        obtain ⟨q, ws, x1, x2, x3, m⟩ := en
        exact ⟨q, ws, x1, by rw [setO_ne z]; exact x2, x3, S.subA hs m⟩
      | m => rw [hx] at en; exact en
      | s ns => rw [hx] at en; exact en
/-- the list in slot i changes -/
theorem Sta.chg (S : Sta G an O σ H ρ) {i : Nat} {ds ds' : List PyData} {p : Addr} {vs vs' : List V} (h : nth ρ i = .o ds) (hO : O i = some p) (hσ : σ[i]? = some (some (.ref p))) (hH : H p = some (.lst vs)) (im : ImA G.W (Nv G.A O) H ds' vs') :
    Sta G an O σ (upd H p (.lst vs')) (put ρ i (.o ds')) := by
  have nM : ¬ G.R.M p := fun m => by
    obtain ⟨o, y⟩ := S.al p (S.ra p m)
    rw [(S.fr i p hO).1] at y
    cases y
  have n0 : ∀ a o, G.H0 a = some o → a ≠ p := fun a o e z => by rw [z, (S.fr i p hO).1] at e; cases e
  have kN : Keep (Nv G.A O) H (upd H p (.lst vs')) := Keep.set hH (.inr ⟨i, hO⟩)
  have hl : i < ρ.length := Nat.lt_of_not_le fun z => by rw [nth_out z] at h; cases h
  refine ⟨G.R.st _ _ S.inv fun a o m e => by rw [upd_ne (show a ≠ p from fun z => m.elim (fun m => nM (by rw [← z]; exact m)) fun m => m vs (Option.some.inj (e.symm.trans (by rw [z]; exact hH))))]; exact e, ⟨fun a o e n => ?_, fun a xs e => ?_, fun a o u e => ?_⟩, S.al, S.ra, fun j q e => ⟨(S.fr j q e).1, ?_⟩, S.oi, S.ob, fun j q e => ?_, by rw [put_len, S.len], fun j => ?_, fun q hq => Im.keep kN _ _ (S.as q hq)⟩
  · rw [upd_ne (n0 a o e)]; exact S.kp.ob a o e n
  · rw [upd_ne (n0 a _ e)]; exact S.kp.tp a xs e
  · rw [upd_ne (n0 a _ e)]; exact S.kp.fz a o u e
  · by_cases z : q = p
    · exact ⟨vs', by rw [z, upd_same]⟩
    · obtain ⟨xs, y⟩ := (S.fr j q e).2
      exact ⟨xs, by rw [upd_ne z]; exact y⟩
  · rw [put_len]
    by_cases z : j = i
    · exact .inr ⟨ds', by rw [z, nth_put_same hl]⟩
    · rw [nth_put_ne z]; exact S.oe j q e
  · by_cases z : j = i
    · rw [z, nth_put_same hl]
      exact ⟨p, vs', hσ, hO, upd_same, ImA.keep kN _ _ im⟩
    · rw [nth_put_ne z]
      have en := S.en j
      cases hx : nth ρ j with
      | u => trivial
      | d x =>
        rw [hx] at en
        obtain ⟨w, e1, m⟩ := en
        exact ⟨w, e1, Im.keep kN _ _ m⟩
      | o xs =>
        rw [hx] at en
        obtain ⟨q, ws, x1, x2, x3, m⟩ := en
        have qp : q ≠ p := fun y => z (S.oi j i p (y ▸ x2) hO)
        exact ⟨q, ws, x1, x2, by rw [upd_ne qp]; exact x3, ImA.keep kN _ _ m⟩
      | m => rw [hx] at en; exact en
      | s ns =>
        rw [hx] at en
        obtain ⟨q, x1, x2⟩ := en
        exact ⟨q, x1, x2.keep kN⟩
end
end DL

namespace DL
open PySem PySem.Spec PyProof.Rows L2

abbrev WG := PyData → Ev → (Ev → Prop) → Prop
abbrev WGs := List PyData → Ev → (Ev → Prop) → Prop
def OnlyAt (is : List Nat) (σ σ' : L2.St) : Prop := ∀ vs : List Nat, (∀ i ∈ is, i ∈ vs) → wipe σ' vs = wipe σ vs
def Less (is : List Nat) (O O' : Nat → Option Addr) : Prop := ∀ i p, O i = some p → i ∈ is ∨ O' i = some p
def upG (G : Gx) (is : List Nat) (g : WG) : TG := fun v σ H Q => ∃ (an : List (PyData × V)) (O : Nat → Option Addr) (ρ : Ev) (d : PyData) (Φ : Ev → Prop), Sta G an O σ H ρ ∧ Im G.W (Nv G.A O) H d v ∧ g d ρ Φ ∧
  ∀ O' σ' ρ', Sta G an O' σ' H ρ' → Φ ρ' → OnlyAt is σ σ' → Less is O O' → Q σ' H
def upGs (G : Gx) (is : List Nat) (g : WGs) : TGs := fun vs σ H Q => ∃ (an : List (PyData × V)) (O : Nat → Option Addr) (ρ : Ev) (ds : List PyData) (Φ : Ev → Prop), Sta G an O σ H ρ ∧ ImA G.W (Nv G.A O) H ds vs ∧ g ds ρ Φ ∧
  ∀ O' σ' ρ', Sta G an O' σ' H ρ' → Φ ρ' → OnlyAt is σ σ' → Less is O O' → Q σ' H
def gN (i : Nat) : WG := fun d ρ Φ => i < ρ.length ∧ Φ (put ρ i (.d d))
def gsNil : WGs := fun ds ρ Φ => match ds with | [] => Φ ρ | _ => False
def gsCons (g : WG) (r : WGs) : WGs := fun ds ρ Φ => match ds with | d :: ds => g d ρ fun ρ' => r ds ρ' Φ | [] => False
def gT (n : Nat) (g : WGs) : WG := fun d ρ Φ => match d with | .tuple ds => ds.length = n ∧ g ds ρ Φ | _ => False
section
variable {X : Cx} {G : Gx} {pos : Pos} {s s1 s2 : Bool} {e a b tg : Expr} {es : List Expr} {we wa wb wc : WE} {wr : WA} {wi : WI} {g : WG} {gs : WGs}
theorem wipe_comm (σ : L2.St) (i : Nat) (x : Option V) : ∀ vs : List Nat, i ∉ vs → wipe (σ.set i x) vs = (wipe σ vs).set i x
  | [], _ => rfl
  | v :: vs, h => by
    have h1 : i ≠ v := fun z => h (by rw [z]; exact List.mem_cons_self)
    have h2 : i ∉ vs := fun z => h (List.mem_cons_of_mem _ z)
    show (wipe (σ.set i x) vs).set v none = ((wipe σ vs).set v none).set i x
    rw [wipe_comm σ i x vs h2, List.set_comm _ _ h1]
theorem set_wipe (σ : L2.St) (i : Nat) (x : Option V) : ∀ vs : List Nat, i ∈ vs → wipe (σ.set i x) vs = wipe σ vs
  | [], h => by cases h
  | v :: vs, h => by
    show (wipe (σ.set i x) vs).set v none = (wipe σ vs).set v none
    by_cases q : i ∈ vs
    · rw [set_wipe σ i x vs q]
    · have e : i = v := by
        rcases List.mem_cons.mp h with z | z
        · exact z
        · exact absurd z q
      rw [wipe_comm σ i x vs q, e, List.set_set]
theorem onlyAt_set (i : Nat) (x : Option V) {σ : L2.St} : OnlyAt [i] σ (σ.set i x) := fun vs h => set_wipe σ i x vs (h i List.mem_cons_self)
theorem pg_weak {t t' : TG} (h : PG X tg t) (k : ∀ v σ H Q, t' v σ H Q → t v σ H Q) : PG X tg t' := ⟨fun pins s σ H v u Q I r q => h.run pins s σ H v u Q I r (k v σ H Q q)⟩
theorem pgs_weak {t t' : TGs} (h : PGs X es t) (k : ∀ v σ H Q, t' v σ H Q → t v σ H Q) : PGs X es t' := ⟨fun pins s σ H v u Q I r q => h.run pins s σ H v u Q I r (k v σ H Q q)⟩
theorem dg_name (i : Nat) {x : Str} (hN : X.N.Nodup) (hi : X.N[i]? = some x := by rfl) (hx : Loc X.env.scope x := by first | exact Or.inl rfl | exact Or.inr rfl) (hf : X.fn x = true ∨ X.env.scope.names.lookup x = some .local := by first | exact .inl rfl | exact .inr rfl | assumption) :
    PG X (.Name x pos) (upG G [i] (gN i)) := pg_weak (pg_name hN hi hx hf) fun v σ H Q ⟨an, O, ρ, d, Φ, S, im, h, q⟩ => q _ _ _ (S.setD i im) h.2 (onlyAt_set i _) (fun j p e => by
  by_cases z : j = i
  · exact .inl (by rw [z]; exact List.mem_cons_self)
  · exact .inr (by rw [setO_ne z]; exact e))
theorem dgs_nil : PGs X [] (upGs G [] gsNil) := pgs_weak pgs_nil fun vs σ H Q ⟨an, O, ρ, ds, Φ, S, im, h, q⟩ => by
  unfold gsNil at h
  split at h
  · cases im
    exact ⟨rfl, q _ _ _ S h (fun _ _ => rfl) fun _ _ e => .inr e⟩
  · exact h.elim
theorem Sta.anm {an an' : List (PyData × V)} {O : Nat → Option Addr} {σ : L2.St} {H : Hp} {ρ : Ev} (S : Sta G an O σ H ρ) (h : ∀ p ∈ an', p ∈ an) : Sta G an' O σ H ρ :=
  ⟨S.inv, S.kp, S.al, S.ra, S.fr, S.oi, S.ob, S.oe, S.len, S.en, fun p hp => S.as p (h p hp)⟩
theorem Sta.ana {an : List (PyData × V)} {O : Nat → Option Addr} {σ : L2.St} {H : Hp} {ρ : Ev} (S : Sta G an O σ H ρ) {src : List (PyData × V)} (h : ∀ p ∈ src, Im G.W (Nv G.A O) H p.1 p.2) : Sta G (src ++ an) O σ H ρ :=
  ⟨S.inv, S.kp, S.al, S.ra, S.fr, S.oi, S.ob, S.oe, S.len, S.en, fun p hp => (List.mem_append.mp hp).elim (h p) (S.as p)⟩
theorem ImA.zipm {W : Wd} {N : Addr → Prop} {H : Hp} : ∀ {ds : List PyData} {vs : List V}, ImA W N H ds vs → ∀ p ∈ ds.zip vs, Im W N H p.1 p.2
  | [], _, h, p, hp => by simp at hp
  | d :: ds, _, h, p, hp => by
    obtain ⟨v, r, rfl, q1, q2⟩ := h
    rcases List.mem_cons.mp hp with e | hp
    · rw [e]; exact q1
    · exact ImA.zipm q2 p hp
theorem ImA.ofzip {W : Wd} {N : Addr → Prop} {H : Hp} : ∀ {ds : List PyData} {vs : List V}, vs.length = ds.length → (∀ p ∈ ds.zip vs, Im W N H p.1 p.2) → ImA W N H ds vs
  | [], [], _, h => rfl
  | d :: ds, v :: vs, l, h => ⟨v, vs, rfl, h (d, v) List.mem_cons_self, ImA.ofzip (by simpa using l) fun p hp => h p (List.mem_cons_of_mem _ hp)⟩
theorem dgs_cons {i1 i2 : List Nat} (h1 : PG X e (upG G i1 g)) (h2 : PGs X es (upGs G i2 gs)) (hs : (assignEach (e :: es) X.env).map (·.2) = assign e X.env :: (assignEach es X.env).map (·.2) := by rfl) : PGs X (e :: es) (upGs G (i1 ++ i2) (gsCons g gs)) :=
  pgs_weak (pgs_cons h1 h2 hs) fun vs σ H Q ⟨an, O, ρ, ds, Φ, S, im, h, q⟩ => by
    cases ds with
    | nil => exact h.elim
    | cons d ds =>
      obtain ⟨v, r, rfl, q1, q2⟩ := im
      refine ⟨v, r, rfl, ds.zip r ++ an, O, ρ, d, _, S.ana (ImA.zipm q2), q1, h, fun O' σ' ρ' S' h' w1 x1 => ?_⟩
      refine ⟨an, O', ρ', ds, Φ, S'.anm fun p hp => List.mem_append_right _ hp, ImA.ofzip (ImA.length q2) fun p hp => S'.as p (List.mem_append_left _ hp), h', fun O2 σ2 ρ2 S2 h2 w2 x2 => q O2 σ2 ρ2 S2 h2 (fun vs hv => ?_) fun i p e => ?_⟩
      · rw [w2 vs fun i hi => hv i (List.mem_append_right _ hi), w1 vs fun i hi => hv i (List.mem_append_left _ hi)]
      · rcases x1 i p e with z | z
        · exact .inl (List.mem_append_left _ z)
        · exact (x2 i p z).elim (fun y => .inl (List.mem_append_right _ y)) .inr
theorem dg_tup {k n : Nat} {is : List Nat} (hK : X.K = G.W.K) (hc : X.calm = true) (h : PGs X es (upGs G is gs)) (hn : (assignEach es X.env).length = n := by rfl) (hst : (assignEach es X.env).findIdx? (·.1) = none := by rfl) : PG X (.Tuple es k pos) (upG G is (gT n gs)) :=
  pg_weak (pg_tup hc h hn hst) fun v σ H Q ⟨an, O, ρ, d, Φ, S, im, h, q⟩ => by
    unfold gT at h
    split at h
    · obtain ⟨a, xs, rfl, r, m⟩ := im
      exact ⟨a, xs, rfl, by rw [hK]; exact r, by rw [ImA.length m]; exact h.1, an, O, ρ, _, Φ, S, m, h.2, q⟩
    · exact h.elim

def wSq (w1 w2 : WS) : WS := fun W ρ => w1 { W with nx := fun ρ' => w2 W ρ' } ρ
def wNx : WS := fun W ρ => W.nx ρ
def wRet (we : WE) : WS := fun W ρ => we ρ W.rt
def wIf (wt : WT) (w1 w2 : WS) : WS := fun W ρ => wt ρ fun c => if c = true then w1 W ρ else w2 W ρ
def wAs (we : WE) (g : WG) : WS := fun W ρ => we ρ fun d => g d ρ W.nx
def wFrz (i : Nat) (ws : WS) : WS := fun W ρ => match nth ρ i with | .o ds => ws W (put ρ i (.d (.list ds))) | _ => ws W ρ
variable {st : Stmt} {rest sts : List Stmt} {w1 w2 ws : WS} {wt : WT}
theorem dss_nil : PSs X [] (upS G wNx) := pss_weak pss_nil fun D σ H ⟨an, O, ρ, W, S, h, q1, _⟩ => q1 O σ H ρ S h
theorem up_seq (D : Ends) (σ : L2.St) (H : Hp) (h : upS G (wSq w1 w2) D σ H) : tSeq (upS G w1) (upS G w2) D σ H := by
  obtain ⟨an, O, ρ, W, S, h, q1, q2, q3, q4⟩ := h
  exact ⟨an, O, ρ, _, S, h, fun O' σ' H' ρ' S' h' => ⟨an, O', ρ', W, S', h', q1, q2, q3, q4⟩, q2, q3, q4⟩
theorem dss_cons (h1 : PS X st (upS G w1)) (h2 : PSs X rest (upS G w2)) : PSs X (st :: rest) (upS G (wSq w1 w2)) := pss_weak (pss_cons h1 h2) up_seq
theorem dss_one (h1 : PS X st (upS G w1)) : PSs X [st] (upS G w1) := pss_one h1
theorem ds_ret (h : PE X e (up G s we)) : PS X (.Return (some e) pos) (upS G (wRet we)) := ps_weak (ps_ret h) fun D σ H ⟨an, O, ρ, W, S, h, q1, q2, q3, q4⟩ =>
  ⟨an, O, ρ, W.rt, S, h, fun v H' d p im k i => q2 v H' d p (loose im) (S.kp.trans k) i⟩
theorem ds_pass : PS X (.Pass pos) (upS G wNx) := ps_weak ps_pass fun D σ H ⟨an, O, ρ, W, S, h, q1, _⟩ => q1 O σ H ρ S h
theorem ds_continue : PS X (.Continue pos) (upS G (fun W ρ => W.ct ρ)) := ps_weak ps_continue fun D σ H ⟨an, O, ρ, W, S, h, q1, q2, q3, q4⟩ => q4 O σ H ρ S h
theorem ds_never : PS X st (upS G (fun _ _ => False)) := ps_weak ps_never fun D σ H ⟨an, O, ρ, W, S, h, _⟩ => h
theorem ds_if {c : Expr} (hc : PT X c (upT G wt)) (ha : PSs X sts (upS G w1)) (hb : PSs X rest (upS G w2)) : PS X (.If c sts rest pos) (upS G (wIf wt w1 w2)) := ps_weak (ps_if hc ha hb) fun D σ H ⟨an, O, ρ, W, S, h, q1, q2, q3, q4⟩ => by
  refine ⟨an, O, ρ, _, S, h, fun b H1 hb k i => ?_⟩
  cases b with
  | true =>
    rw [if_pos rfl] at hb ⊢
    exact ⟨an, O, ρ, W, S.keep k i, hb, q1, q2, q3, q4⟩
  | false =>
    rw [if_neg Bool.false_ne_true] at hb ⊢
    exact ⟨an, O, ρ, W, S.keep k i, hb, q1, q2, q3, q4⟩
theorem up_asg {te : TE} {is : List Nat} (h : ∀ σ H Q, up G true we σ H Q → te σ H Q) (D : Ends) (σ : L2.St) (H : Hp) (hq : upS G (wAs we g) D σ H) : tAsg te (upG G is g) D σ H := by
  obtain ⟨an, O, ρ, W, S, hw, q1, q2, q3, q4⟩ := hq
  refine h σ H _ ⟨an, O, ρ, _, S, hw, fun v H1 d h1 im k1 i1 => ?_⟩
  exact ⟨an, O, ρ, d, W.nx, S.keep k1 i1, im, h1, fun O' σ' ρ' S' h' _ _ => q1 O' σ' H1 ρ' S' h'⟩
theorem ds_asg {is : List Nat} (he : PE X e (up G true we)) (hg : PG X tg (upG G is g)) (hs : swapsWithSole [tg] e pos.line X.env = pure false := by rfl) (hw : swappedStores [tg] e X.env = pure none := by rfl) (h1 : (assignEach [tg] X.env).map (·.2) = [assign tg X.env] := by rfl) :
    PS X (.Assign [tg] e pos) (upS G (wAs we g)) := ps_weak (ps_asg he hg hs hw h1) (up_asg fun _ _ _ q => q)
/-- name = value -/
def wSet (i : Nat) (we : WE) : WS := fun W ρ => we ρ fun d => W.nx (put ρ i (.d d))
theorem up_set {te : TE} {i : Nat} (h : ∀ σ H Q, up G true we σ H Q → te σ H Q) (D : Ends) (σ : L2.St) (H : Hp) (hq : upS G (wSet i we) D σ H) : tAsg te (gName i) D σ H := by
  obtain ⟨an, O, ρ, W, S, hw, q1, q2, q3, q4⟩ := hq
  exact h σ H _ ⟨an, O, ρ, _, S, hw, fun v H1 d h1 im k1 i1 => q1 _ _ _ _ ((S.keep k1 i1).setD i im) h1⟩
theorem ds_set (i : Nat) {x : Str} {pos' : Pos} (hN : X.N.Nodup) (he : PE X e (up G true we)) (hi : X.N[i]? = some x := by rfl) (hx : Loc X.env.scope x := by first | exact Or.inl rfl | exact Or.inr rfl) (hs : swapsWith e (some (.Name x pos')) pos.line X.env = pure false := by rfl)
    (hf : X.fn x = true ∨ X.env.scope.names.lookup x = some .local := by first | exact .inl rfl | exact .inr rfl | assumption) : PS X (.Assign [.Name x pos'] e pos) (upS G (wSet i we)) :=
  ps_weak (ps_set hN hi hx he hs hf) (up_set fun _ _ _ q => q)
/-- a ghost: the list of one's own in slot i becomes a value -/
theorem dss_frz (i : Nat) (h : PSs X sts (upS G ws)) : PSs X sts (upS G (wFrz i ws)) := pss_weak h fun D σ H ⟨an, O, ρ, W, S, hw, q1, q2, q3, q4⟩ => by
  unfold wFrz at hw
  split at hw
  · rename_i ds hx
    exact ⟨an, _, _, W, S.frz hx, hw, q1, q2, q3, q4⟩
  · exact ⟨an, O, ρ, W, S, hw, q1, q2, q3, q4⟩

abbrev WF := Ev → (List PyData → Prop) → Prop
def upF (G : Gx) (wf : WF) : TE := fun σ H Q => ∃ (an : List (PyData × V)) (O : Nat → Option Addr) (ρ : Ev) (Φ : List PyData → Prop), Sta G an O σ H ρ ∧ wf ρ Φ ∧
  ∀ p H' ds vs, Φ ds → H p = none → H' p = some (.lst vs) → ImA G.W (fun a => Nv G.A O a ∨ a = p) H' ds vs → Keep G.R.M H H' → G.R.I H' → Q (.ref p) H'
def wFst (i : Nat) (wf : WF) : WS := fun W ρ => wf ρ fun ds => W.nx (put ρ i (.o ds))
def wFv (wf : WF) : WE := fun ρ Φ => wf ρ fun ds => Φ (.list ds)
theorem up_fv {wf : WF} (σ : L2.St) (H : Hp) (Q : VK) (h : up G true (wFv wf) σ H Q) : upF G wf σ H Q := by
  obtain ⟨an, O, ρ, Φ, S, hw, q⟩ := h
  refine ⟨an, O, ρ, _, S, hw, fun p H' ds vs h1 hp hH im k i => q _ H' _ h1 ⟨p, vs, rfl, hH, fun z => ?_, ImA.avoid (fun a o _ z => .inl z) _ _ im⟩ k i⟩
  exact S.fresh (s := true) hp z
theorem de_fv {wf : WF} (h : PE X e (upF G wf)) : PE X e (up G true (wFv wf)) := pe_weak h up_fv
theorem up_fst {te : TE} {wf : WF} {i : Nat} (h : ∀ σ H Q, upF G wf σ H Q → te σ H Q) (D : Ends) (σ : L2.St) (H : Hp) (hq : upS G (wFst i wf) D σ H) : tAsg te (gName i) D σ H := by
  obtain ⟨an, O, ρ, W, S, hw, q1, q2, q3, q4⟩ := hq
  exact h σ H _ ⟨an, O, ρ, _, S, hw, fun p H' ds vs h1 hp hH im k i1 => by
    obtain ⟨O2, S2⟩ := S.setN hp hH k i1 i im
    exact q1 _ _ _ _ S2 h1⟩
theorem ds_fst (i : Nat) {x : Str} {pos' : Pos} {wf : WF} (hN : X.N.Nodup) (he : PE X e (upF G wf)) (hi : X.N[i]? = some x := by rfl) (hx : Loc X.env.scope x := by first | exact Or.inl rfl | exact Or.inr rfl) (hs : swapsWith e (some (.Name x pos')) pos.line X.env = pure false := by rfl)
    (hf : X.fn x = true ∨ X.env.scope.names.lookup x = some .local := by first | exact .inl rfl | exact .inr rfl | assumption) : PS X (.Assign [.Name x pos'] e pos) (upS G (wFst i wf)) :=
  ps_weak (ps_set hN hi hx he hs hf) (up_fst fun _ _ _ q => q)
def wFl (wa : WA) : WF := fun ρ Φ => wa ρ fun xs => xs.length ≤ 100000 ∧ Φ xs
theorem df_lst (h : PA X es (upA G true wr)) : PE X (.List es pos) (upF G (wFl wr)) := pe_weak (pe_lst h) fun σ H Q ⟨an, O, ρ, Φ, S, h, q⟩ => by
  refine ⟨an, O, ρ, _, S, h, fun vs H1 ds h1 im k1 i1 => ⟨line5 (by rw [ImA.length im]; exact h1.1), fun p hp => ?_⟩⟩
  have S1 := S.keep k1 i1
  have hp0 : H p = none := by
    cases z : H p with
    | none => rfl
    | some o =>
      by_cases m : G.R.M p
      · obtain ⟨xs, y⟩ := G.R.al H1 p i1 m
        rw [hp] at y; cases y
      · rw [k1.ob p o z m] at hp; cases hp
  refine q p _ ds vs h1.2 hp0 upd_same ?_ (k1.trans (Keep.new hp)) (S1.newI hp)
  exact ImA.keep (Keep.new hp) _ _ (ImA.avoid (fun a o e z => z.elim id fun z => by rw [z, hp] at e; cases e) _ _ im)
/-- x.append(e) -/
def wApp (i : Nat) (we : WE) : WS := fun W ρ => match nth ρ i with | .o ds => (we ρ fun d => ds.length < 100000 ∧ W.nx (put ρ i (.o (ds ++ [d])))) | _ => False
theorem own_slot {an : List (PyData × V)} {O : Nat → Option Addr} {σ : L2.St} {H : Hp} {ρ : Ev} {i : Nat} {P : List PyData → Prop} (S : Sta G an O σ H ρ) (h : match nth ρ i with | .o ds => P ds | _ => False) :
    ∃ ds p vs, nth ρ i = .o ds ∧ σ[i]? = some (some (.ref p)) ∧ O i = some p ∧ H p = some (.lst vs) ∧ ImA G.W (Nv G.A O) H ds vs ∧ P ds := by
  have en := S.en i
  cases hx : nth ρ i with
  | o ds =>
    rw [hx] at en h
    obtain ⟨p, vs, e1, e2, e3, m⟩ := en
    exact ⟨ds, p, vs, rfl, e1, e2, e3, m, h⟩
  | _ => rw [hx] at h; exact h.elim
theorem Sta.nM {an : List (PyData × V)} {O : Nat → Option Addr} {σ : L2.St} {H : Hp} {ρ : Ev} (S : Sta G an O σ H ρ) {i : Nat} {p : Addr} (h : O i = some p) : ¬ G.R.M p := fun m => by
  obtain ⟨o, y⟩ := S.al p (S.ra p m)
  rw [(S.fr i p h).1] at y
  cases y
theorem ds_app (i : Nat) {x : Str} {p1 apos cpos : Pos} (he : PE X e (up G true we)) (hN : X.N[i]? = some x := by rfl) (hv : Vis X.env.scope x := by first | exact Or.inl rfl | exact Or.inr (Or.inl rfl) | exact Or.inr (Or.inr rfl))
    (hd : (x == ("__debug__" : Str)) = false := by decide) (hcd : (x == ("__classdict__" : Str)) = false := by decide)
    (hbase : attributeBase (.Name x p1) "append" X.env (eval (.Name x p1) X.env) = eval (.Name x p1) X.env := by rfl)
    (hfew : ((backTo cpos (starEach [e] X.env)).all (fun x => !x.1) && (backToKw cpos (keywordEach [] X.env)).all (fun x => x.1.isSome) && decide (([e] : List Expr).length + ([] : List Keyword).length + (if ([] : List Keyword).isEmpty then 0 else 1) < 30)) = true := by rfl)
    (hline : (apos.endLine == cpos.line) = true := by rfl) (hst : starEach [e] X.env = (false, eval e X.env) :: starEach [] X.env := by rfl) (hpl : (backTo cpos (starEach [] X.env)).any (·.1) = false := by rfl)
    (hs : swapsWith (.Call (.Attribute (.Name x p1) "append" apos) [e] [] cpos) none pos.line X.env = pure false := by rfl) :
    PS X (.Expr (.Call (.Attribute (.Name x p1) "append" apos) [e] [] cpos) pos) (upS G (wApp i we)) := ps_weak (ps_expr (pe_bm PySem.F.plainAttrs_list PySem.F.slot_list_append PySem.F.type_list_append mt_append (pe_var hN hv hd hcd) (pa_cons he pa_nil hst) hbase hfew hline hst hpl) hs) fun D σ H ⟨an, O, ρ, W, S, h, q1, q2, q3, q4⟩ => by
  obtain ⟨ds, p, vs, hx, e1, e2, e3, m, hw⟩ := own_slot S h
  refine ⟨.ref p, e1, .inl ⟨rfl, vs, .inl (.inl e3)⟩, an, O, ρ, _, S, hw, fun v H1 d h1 im k1 i1 => ?_⟩
  have S1 := S.keep k1 i1
  have e3' := k1.ob p _ e3 (S.nM e2)
  refine ⟨p, vs, v, rfl, rfl, e3', Nat.lt_of_lt_of_le (by rw [ImA.length m]; exact h1.1) (by decide), ?_⟩
  exact q1 _ _ _ _ (S1.chg hx e2 e1 e3' (ImA.append (ImA.keep (S.ka (s := true) k1) _ _ m) (ImA.one im))) h1.2
end
end DL

namespace DL
open PySem PySem.Spec PyProof.Rows L2

abbrev WAE := Ev → (List Ent → Prop) → Prop
def EsOk (G : Gx) (O : Nat → Option Addr) (n : Nat) (H : Hp) : List Ent → List V → Prop
  | [], vs => vs = []
  | .d x :: es, vs => ∃ v r, vs = v :: r ∧ Im G.W (Nv G.A O) H x v ∧ EsOk G O n H es r
  | .o ds :: es, vs => ∃ p j ws r, vs = .ref p :: r ∧ n ≤ j ∧ O j = some p ∧ H p = some (.lst ws) ∧ ImA G.W (Nv G.A O) H ds ws ∧ EsOk G O (j + 1) H es r
  | _ :: _, _ => False
def upE (G : Gx) (wa : WAE) : TA := fun σ H Q => ∃ (an : List (PyData × V)) (O : Nat → Option Addr) (ρ : Ev) (Φ : List Ent → Prop), Sta G an O σ H ρ ∧ wa ρ Φ ∧
  ∀ vs H' es O' n, Φ es → ρ.length ≤ n → (∀ i, n ≤ i → O i = none) → EsOk G O' n H' es vs → Sta G an O' σ H' ρ → Keep G.R.M H H' → (∀ i p, O' i = some p → O i = some p ∨ H p = none) → (∀ i p, O i = some p → O' i = some p) → Q vs H'
def wEn : WAE := fun _ Φ => Φ []
def wEd (we : WE) (r : WAE) : WAE := fun ρ Φ => we ρ fun d => r ρ fun es => Φ (.d d :: es)
def wEf (wf : WF) (r : WAE) : WAE := fun ρ Φ => wf ρ fun ds => r ρ fun es => Φ (.o ds :: es)
section
variable {X : Cx} {G : Gx} {pos : Pos} {s s1 s2 : Bool} {e a b c tg : Expr} {es : List Expr} {we wa wb wc : WE} {wr : WAE} {wf : WF}
theorem none_back {M : Addr → Prop} {H H' : Hp} {p : Addr} (S : M p → H' p ≠ none) (k : Keep M H H') (h : H' p = none) : H p = none := by
  cases z : H p with
  | none => rfl
  | some o =>
    by_cases m : M p
    · exact absurd h (S m)
    · rw [k.ob p o z m] at h; cases h
theorem Sta.back {an : List (PyData × V)} {O : Nat → Option Addr} {σ : L2.St} {H H' : Hp} {ρ : Ev} (S : Sta G an O σ H' ρ) (k : Keep G.R.M H H') {p : Addr} (h : H' p = none) : H p = none :=
  none_back (fun m z => by
    obtain ⟨xs, y⟩ := G.R.al H' p S.inv m
    rw [z] at y; cases y) k h
theorem EsOk.le {O : Nat → Option Addr} {n m : Nat} {H : Hp} (h : n ≤ m) : ∀ {es : List Ent} {vs : List V}, EsOk G O m H es vs → EsOk G O n H es vs
  | [], _, q => q
  | .d x :: es, _, q => by
    obtain ⟨v, r, e, i, q⟩ := q
    exact ⟨v, r, e, i, EsOk.le h q⟩
  | .o ds :: es, _, q => by
    obtain ⟨p, j, ws, r, e, l, o, y, i, q⟩ := q
    exact ⟨p, j, ws, r, e, Nat.le_trans h l, o, y, i, q⟩
  | .m :: _, _, q => q.elim
  | .u :: _, _, q => q.elim
  | .s _ :: _, _, q => q.elim
theorem ea_nil : PA X [] (upE G wEn) := pa_weak pa_nil fun σ H Q ⟨an, O, ρ, Φ, S, h, q⟩ => by
  obtain ⟨bd, hbd⟩ := S.ob
  exact q [] H [] O (max bd ρ.length) h (Nat.le_max_right _ _) (fun i hi => hbd i (Nat.le_trans (Nat.le_max_left _ _) hi)) rfl S (Keep.refl H) (fun _ _ e => .inl e) fun _ _ e => e
theorem ea_d (ha : PE X e (up G true we)) (hr : PA X es (upE G wr)) (hs : starEach (e :: es) X.env = (false, eval e X.env) :: starEach es X.env := by rfl) : PA X (e :: es) (upE G (wEd we wr)) :=
  pa_weak (pa_cons ha hr hs) fun σ H Q ⟨an, O, ρ, Φ, S, h, q⟩ => by
    refine ⟨an, O, ρ, _, S, h, fun v H1 d h1 im k1 i1 => ?_⟩
    have S1 := S.keep k1 i1
    refine ⟨an, O, ρ, _, S1, h1, fun vs H2 es O' n h2 n1 n2 ok S2 k2 x1 x2 => ?_⟩
    refine q (v :: vs) H2 (.d d :: es) O' n h2 n1 n2 ⟨v, vs, rfl, ?_, ok⟩ S2 (k1.trans k2) (fun i p e => (x1 i p e).elim .inl fun z => .inr (S1.back k1 z)) x2
    have m1 : Im G.W (Nv G.A O') H1 d v := Im.avoid (fun a o ea z => z.elim .inl fun ⟨i, y⟩ => (x1 i a y).elim (fun y => .inr ⟨i, y⟩) fun y => by rw [y] at ea; cases ea) d v im
    exact Im.keep (k2.mono fun a m => .inl (S.ra a m)) d v m1
theorem ea_f (ha : PE X e (upF G wf)) (hr : PA X es (upE G wr)) (hs : starEach (e :: es) X.env = (false, eval e X.env) :: starEach es X.env := by rfl) : PA X (e :: es) (upE G (wEf wf wr)) :=
  pa_weak (pa_cons ha hr hs) fun σ H Q ⟨an, O, ρ, Φ, S, h, q⟩ => by
    refine ⟨an, O, ρ, _, S, h, fun p H1 ds vs h1 hp hH im k1 i1 => ?_⟩
    obtain ⟨bd, hbd⟩ := S.ob
    have hj : O (max bd ρ.length) = none := hbd _ (Nat.le_max_left _ _)
    have S1 := S.own hp hH k1 i1 (max bd ρ.length) (Nat.le_max_right _ _)
    refine ⟨an, _, ρ, _, S1, h1, fun ws H2 es O' n h2 n1 n2 ok S2 k2 x1 x2 => ?_⟩
    have hn : max bd ρ.length + 1 ≤ n := Nat.lt_of_not_le fun z => by
      have y := n2 _ z
      rw [setO_same] at y
      cases y
    refine q (.ref p :: ws) H2 (.o ds :: es) O' (max bd ρ.length) h2 (Nat.le_max_right _ _) (fun i hi => hbd i (Nat.le_trans (Nat.le_max_left _ _) hi)) ⟨p, max bd ρ.length, vs, ws, rfl, Nat.le_refl _, x2 _ _ setO_same, k2.ob p _ hH (S1.nM setO_same), ?_, EsOk.le hn ok⟩ S2 (k1.trans k2) (fun i r e => ?_) (fun i r e => ?_)
    · have m1 : ImA G.W (Nv G.A O') H1 ds vs := ImA.avoid (fun a o ea z => by
        rcases z with z | ⟨i, y⟩
        · exact .inl (.inl z)
        · rcases x1 i a y with y | y
          · by_cases q : i = max bd ρ.length
            · rw [q, setO_same] at y
              cases y
              exact .inr rfl
            · rw [setO_ne q] at y
              exact .inl (.inr ⟨i, y⟩)
          · rw [y] at ea; cases ea) _ _ im
      exact ImA.keep (k2.mono fun a m => .inl (S.ra a m)) _ _ m1
    · rcases x1 i r e with y | y
      · by_cases q : i = max bd ρ.length
        · rw [q, setO_same] at y
          cases y
          exact .inr hp
        · rw [setO_ne q] at y
          exact .inl y
      · exact .inr (S1.back k1 y)
    · by_cases q : i = max bd ρ.length
      · rw [q, hj] at e; cases e
      · exact x2 i r (by rw [setO_ne q]; exact e)
def puts : Ev → List Nat → List Ent → Ev
  | ρ, i :: is, e :: es => puts (put ρ i e) is es
  | ρ, _, _ => ρ
def setsV : L2.St → List Nat → List V → L2.St
  | σ, i :: is, v :: vs => setsV (σ.set i (some v)) is vs
  | σ, _, _ => σ
theorem EsOk.sub {G : Gx} {O O' : Nat → Option Addr} {H : Hp} (hs : ∀ a, Nv G.A O' a → Nv G.A O a) : ∀ {es : List Ent} {vs : List V} {n : Nat}, (∀ j p, n ≤ j → O j = some p → O' j = some p) → EsOk G O n H es vs → EsOk G O' n H es vs
  | [], _, _, _, h => h
  | .d x :: es, _, n, hj, h => by
    obtain ⟨v, r, e, m, q⟩ := h
    exact ⟨v, r, e, Im.avoid (fun a o _ z => hs a z) _ _ m, EsOk.sub hs hj q⟩
  | .o ds :: es, _, n, hj, h => by
    obtain ⟨p, j, ws, r, e, l, o, y, m, q⟩ := h
    exact ⟨p, j, ws, r, e, l, hj j p l o, y, ImA.avoid (fun a o _ z => hs a z) _ _ m, EsOk.sub hs (fun k p hk => hj k p (by omega)) q⟩
  | .m :: _, _, _, _, h => h.elim
  | .u :: _, _, _, _, h => h.elim
  | .s _ :: _, _, _, _, h => h.elim
theorem Sta.putsOk {an : List (PyData × V)} {H : Hp} : ∀ {es : List Ent} {is : List Nat} {vs : List V} {O : Nat → Option Addr} {σ : L2.St} {ρ : Ev} {n : Nat}, Sta G an O σ H ρ → EsOk G O n H es vs → ρ.length ≤ n → (∀ i ∈ is, i < ρ.length) → is.length = es.length →
    ∃ O', Sta G an O' (setsV σ is vs) H (puts ρ is es)
  | [], [], _, O, σ, ρ, n, S, _, _, _, _ => ⟨O, S⟩
  | .d x :: es, i :: is, _, O, σ, ρ, n, S, h, hn, hi, hl => by
    obtain ⟨v, r, rfl, m, q⟩ := h
    have S1 := S.setD i m
    have hsub : ∀ a, Nv G.A (setO O i none) a → Nv G.A O a := fun a z => by
      rcases z with z | ⟨l, z⟩
      · exact .inl z
      · by_cases y : l = i
        · rw [y, setO_same] at z; cases z
        · rw [setO_ne y] at z; exact .inr ⟨l, z⟩
    have hkeep : ∀ j p, n ≤ j → O j = some p → setO O i none j = some p := fun j p hj z => by
      have := hi i List.mem_cons_self
      rw [setO_ne (by omega)]
      exact z
    have q2 := EsOk.sub hsub hkeep q
    exact Sta.putsOk (es := es) (is := is) (O := setO O i none) (σ := σ.set i (some v)) (ρ := put ρ i (.d x)) (n := n) S1 q2 (by rw [put_len]; exact hn) (fun k hk => by rw [put_len]; exact hi k (List.mem_cons_of_mem _ hk)) (by simpa using hl)
  | .o ds :: es, i :: is, _, O, σ, ρ, n, S, h, hn, hi, hl => by
    obtain ⟨p, j, ws, r, rfl, l, o, y, m, q⟩ := h
    have h1 := hi i List.mem_cons_self
    have S1 := S.take i (Nat.le_trans hn l) o y m h1
    have hsub : ∀ a, Nv G.A (setO (setO O j none) i (some p)) a → Nv G.A O a := fun a z => by
      rcases z with z | ⟨k, z⟩
      · exact .inl z
      · by_cases w : k = i
        · rw [w, setO_same] at z
          cases z
          exact .inr ⟨j, o⟩
        · rw [setO_ne w] at z
          by_cases w2 : k = j
          · rw [w2, setO_same] at z; cases z
          · rw [setO_ne w2] at z; exact .inr ⟨k, z⟩
    have hkeep : ∀ k p', j + 1 ≤ k → O k = some p' → setO (setO O j none) i (some p) k = some p' := fun k p' hk z => by
      rw [setO_ne (by omega), setO_ne (by omega)]
      exact z
    have q2 := EsOk.sub hsub hkeep q
    exact Sta.putsOk (es := es) (is := is) (O := setO (setO O j none) i (some p)) (σ := σ.set i (some (.ref p))) (ρ := put ρ i (.o ds)) (n := j + 1) S1 q2 (by rw [put_len]; omega) (fun k hk => by rw [put_len]; exact hi k (List.mem_cons_of_mem _ hk)) (by simpa using hl)
/-- a, b, .. = e, f, .. by several plain names -/
def wPars (is : List Nat) (wa : WAE) : WS := fun W ρ => wa ρ fun es => is.length = es.length ∧ (is.length ≤ 100000 ∧ ∀ i ∈ is, i < ρ.length) ∧ W.nx (puts ρ is es)
theorem EsOk.vlen {O : Nat → Option Addr} {H : Hp} : ∀ {es : List Ent} {vs : List V} {n : Nat}, EsOk G O n H es vs → vs.length = es.length
  | [], _, _, h => by cases h; rfl
  | .d x :: es, _, n, h => by
    obtain ⟨v, r, rfl, m, q⟩ := h
    simp [EsOk.vlen q]
  | .o ds :: es, _, n, h => by
    obtain ⟨p, j, ws, r, rfl, l, o, y, m, q⟩ := h
    simp [EsOk.vlen q]
  | .m :: _, _, _, h => h.elim
  | .u :: _, _, _, h => h.elim
  | .s _ :: _, _, _, h => h.elim
theorem EsOk.keep {O : Nat → Option Addr} {H : Hp} {p : Addr} {o : HO} (k : Keep (Nv G.A O) H (upd H p o)) (hn : ∀ j q, O j = some q → q ≠ p) : ∀ {es : List Ent} {vs : List V} {n : Nat}, EsOk G O n H es vs → EsOk G O n (upd H p o) es vs
  | [], _, _, h => h
  | .d x :: es, _, n, h => by
    obtain ⟨v, r, e, m, q⟩ := h
    exact ⟨v, r, e, Im.keep k _ _ m, EsOk.keep k hn q⟩
  | .o ds :: es, _, n, h => by
    obtain ⟨p', j, ws, r, e, l, o', y, m, q⟩ := h
    exact ⟨p', j, ws, r, e, l, o', by rw [upd_ne (hn j p' o')]; exact y, ImA.keep k _ _ m, EsOk.keep k hn q⟩
  | .m :: _, _, _, h => h.elim
  | .u :: _, _, _, h => h.elim
  | .s _ :: _, _, _, h => h.elim
theorem ds_par2 (i j : Nat) {x y : Str} {px py pt : Pos} {kt k2 pt2} (hc : X.calm = true) (hN : X.N.Nodup) (ha : PA X [a, b] (upE G wr)) (hi : X.N[i]? = some x := by rfl) (hj : X.N[j]? = some y := by rfl) (hij : i ≠ j := by decide)
    (hx : X.env.scope.names.lookup x = some .local := by rfl) (hy : X.env.scope.names.lookup y = some .local := by rfl)
    (hw : swappedStores [.Tuple [.Name x px, .Name y py] kt pt] (.Tuple [a, b] k2 pt2) X.env = pure (some [x, y]) := by rfl)
    (hs : swapsWithSole [.Tuple [.Name x px, .Name y py] kt pt] (.Tuple [a, b] k2 pt2) pos.line X.env = pure false := by rfl) :
    PS X (.Assign [.Tuple [.Name x px, .Name y py] kt pt] (.Tuple [a, b] k2 pt2) pos) (upS G (wPars [i, j] wr)) := ps_weak (ps_par hc hN hi hj hij hx hy ha hw hs) fun D σ H ⟨an, O, ρ, W, S, h, q1, _⟩ => by
  refine ⟨an, O, ρ, _, S, h, fun vs H1 es O' n h1 n1 n2 ok S1 k x1 x2 => ?_⟩
  obtain ⟨l, hb, hw⟩ := h1
  have vl := EsOk.vlen ok
  obtain ⟨O2, S2⟩ := S1.putsOk ok n1 hb.2 l
  match vs, vl with
  | [v, w], _ => exact ⟨v, w, rfl, q1 _ _ _ _ S2 hw⟩
  | [], vl => rw [← l] at vl; cases vl
  | [_], vl => rw [← l] at vl; cases vl
  | _ :: _ :: _ :: _, vl => rw [← l] at vl; simp at vl
theorem ds_par3 (i j k : Nat) {x y z : Str} {px py pz pt : Pos} {kt k2 pt2} (hc : X.calm = true) (hN : X.N.Nodup) (ha : PA X [a, b, c] (upE G wr)) (hi : X.N[i]? = some x := by rfl) (hj : X.N[j]? = some y := by rfl) (hk : X.N[k]? = some z := by rfl) (hij : i ≠ j := by decide) (hik : i ≠ k := by decide) (hjk : j ≠ k := by decide)
    (hx : X.env.scope.names.lookup x = some .local := by rfl) (hy : X.env.scope.names.lookup y = some .local := by rfl) (hz : X.env.scope.names.lookup z = some .local := by rfl)
    (hw : swappedStores [.Tuple [.Name x px, .Name y py, .Name z pz] kt pt] (.Tuple [a, b, c] k2 pt2) X.env = pure (some [x, y, z]) := by rfl)
    (hs : swapsWithSole [.Tuple [.Name x px, .Name y py, .Name z pz] kt pt] (.Tuple [a, b, c] k2 pt2) pos.line X.env = pure false := by rfl) :
    PS X (.Assign [.Tuple [.Name x px, .Name y py, .Name z pz] kt pt] (.Tuple [a, b, c] k2 pt2) pos) (upS G (wPars [i, j, k] wr)) := ps_weak (ps_par3 hc hN hi hj hk hij hik hjk hx hy hz ha hw hs) fun D σ H ⟨an, O, ρ, W, S, h, q1, _⟩ => by
  refine ⟨an, O, ρ, _, S, h, fun vs H1 es O' n h1 n1 n2 ok S1 k x1 x2 => ?_⟩
  obtain ⟨l, hb, hw⟩ := h1
  have vl := EsOk.vlen ok
  obtain ⟨O2, S2⟩ := S1.putsOk ok n1 hb.2 l
  match vs, vl with
  | [v, w, u], _ => exact ⟨v, w, u, rfl, q1 _ _ _ _ S2 hw⟩
  | [], vl => rw [← l] at vl; cases vl
  | [_], vl => rw [← l] at vl; cases vl
  | [_, _], vl => rw [← l] at vl; cases vl
  | _ :: _ :: _ :: _ :: _, vl => rw [← l] at vl; simp at vl
/-- the names of a written tuple of targets -/
def tNames : List Nat → TGs
  | [] => gNil
  | i :: is => gCons (gName i) (tNames is)
theorem tn_nil : PGs X [] (tNames []) := pgs_nil
theorem tn_cons {p : Pos} {is : List Nat} (i : Nat) {x : Str} (hN : X.N.Nodup) (h2 : PGs X es (tNames is)) (hi : X.N[i]? = some x := by rfl) (hx : Loc X.env.scope x := by first | exact Or.inl rfl | exact Or.inr rfl) (hf : X.fn x = true ∨ X.env.scope.names.lookup x = some .local := by first | exact .inl rfl | exact .inr rfl | assumption)
    (hs : (assignEach (.Name x p :: es) X.env).map (·.2) = assign (.Name x p) X.env :: (assignEach es X.env).map (·.2) := by rfl) : PGs X (.Name x p :: es) (tNames (i :: is)) := pgs_cons (pg_name hN hi hx hf) h2 hs
theorem names_run : ∀ {is : List Nat} {vs : List V} {σ : L2.St} {H : Hp} {Q : L2.St → Hp → Prop}, is.length = vs.length → Q (setsV σ is vs) H → tNames is vs σ H Q
  | [], [], _, _, _, _, q => ⟨rfl, q⟩
  | i :: is, v :: vs, σ, H, Q, l, q => ⟨v, vs, rfl, names_run (is := is) (by simpa using l) q⟩
theorem ds_parN {is : List Nat} {ts es : List Expr} {pt : Pos} {kt k2 pt2} {n : Nat} (hc : X.calm = true) (ha : PA X es (upE G wr)) (hg : PGs X ts (tNames is)) (hn : (assignEach ts X.env).length = n := by rfl) (hst : (assignEach ts X.env).findIdx? (·.1) = none := by rfl) (hl : is.length = n := by rfl)
    (hs : swapsWithSole [.Tuple ts kt pt] (.Tuple es k2 pt2) pos.line X.env = pure false := by rfl) (hw : swappedStores [.Tuple ts kt pt] (.Tuple es k2 pt2) X.env = pure none := by rfl) (h1 : (assignEach [.Tuple ts kt pt] X.env).map (·.2) = [assign (.Tuple ts kt pt) X.env] := by rfl) :
    PS X (.Assign [.Tuple ts kt pt] (.Tuple es k2 pt2) pos) (upS G (wPars is wr)) := ps_weak (ps_asg (pe_tup ha) (pg_tup hc hg hn hst) hs hw h1) fun D σ H ⟨an, O, ρ, W, S, h, q1, _⟩ => by
  refine ⟨an, O, ρ, _, S, h, fun vs H1 es O' m h1 n1 n2 ok S1 k x1 x2 => ?_⟩
  obtain ⟨l, hb, hw⟩ := h1
  have vl := EsOk.vlen ok
  have hz : vs.length ≤ sizeLine := line5 (by rw [vl, ← l]; exact hb.1)
  refine ⟨hz, fun p hp => ?_⟩
  have S3 : Sta G an O' σ (upd H1 p (.tup vs)) ρ := S1.keep (Keep.new hp) (S1.newI hp)
  refine ⟨p, vs, rfl, .inl (.inl upd_same), by rw [vl, ← l, hl], names_run (by rw [vl, ← l]) ?_⟩
  have kN : Keep (Nv G.A O') H1 (upd H1 p (.tup vs)) := Keep.new hp
  have np : ∀ j q, O' j = some q → q ≠ p := fun j q e z => by
    obtain ⟨_, xs, y⟩ := S1.fr j q e
    rw [z, hp] at y
    cases y
  obtain ⟨O2, S2⟩ := S3.putsOk (EsOk.keep kN np ok) n1 hb.2 l
  exact q1 _ _ _ _ S2 hw
end
end DL

namespace DL
open PySem PySem.Spec PyProof.Rows L2

section
variable {X : Cx} {G : Gx} {pos : Pos} {s s1 s2 : Bool} {e a b c tg iter elt : Expr} {es ifs : List Expr} {we wa wb wc : WE} {wi : WI} {g : WG} {is : List Nat} {sts body : List Stmt} {ws : WS} {wt : WT}
theorem stK_of {H H' : Hp} (i : G.R.I H) (k : Keep (fun _ => False) H H') : G.R.I H' := G.R.st _ _ i fun a o _ e => k.ob a o e fun z => z
theorem Keep.none {M : Addr → Prop} {H H' : Hp} (k : Keep (fun _ => False) H H') : Keep M H H' := k.mono fun _ z => z.elim
def wFor (wi : WI) (g : WG) (wb : WS) : WS := fun W ρ => wi ρ fun ds => ∃ J : Nat → Ev → Prop, J 0 ρ ∧
  (∀ (i : Nat) (d : PyData) (ρ' : Ev), ds[i]? = some d → J i ρ' → g d ρ' fun ρ2 => wb { W with nx := J (i + 1), ct := J (i + 1), bk := W.nx } ρ2) ∧ ∀ ρ', J ds.length ρ' → W.nx ρ'
theorem ds_for (hp : PassesOwn (model X.prog X.w) X.A X.env X.xe) (hc : X.calm = true) (hi : PI X tg iter (upI G true wi)) (hg : PG X tg (upG G is g)) (hb : PSs X body (upS G ws)) (hs : ∀ x, foldedSetIterable iter X.env x = pure x := by intro _; rfl) :
    PS X (.For tg iter body [] pos) (upS G (wFor wi g ws)) := ps_weak (ps_for hp hc hi hg hb hs) fun D σ H ⟨an, O, ρ, W, S, h, q1, q2, q3, q4⟩ => by
  refine ⟨an, O, ρ, _, S, h, fun J H1 ds src h1 sv im k1 i1 => ?_⟩
  obtain ⟨JJ, j0, jt, je⟩ := h1
  have S1 := S.keep k1 i1
  refine ⟨fun i m σ H => i + m = ds.length ∧ ∃ O ρ, Sta G (src ++ an) O σ H ρ ∧ JJ i ρ, ⟨ds.length, by omega, O, ρ, S1.ana im, j0⟩, ?_⟩
  rintro i m σ H ⟨hm, O1, ρ1, S2, ji⟩
  have hv := sv (Nv G.A O1) H i fun p hp => S2.as p (List.mem_append_left _ hp)
  by_cases hlt : i < ds.length
  · obtain ⟨go, yl⟩ := hv.1 hlt
    refine .inr ⟨go, fun σ' H' => i + 1 + (m - 1) = ds.length ∧ ∃ O ρ, Sta G (src ++ an) O σ' H' ρ ∧ JJ (i + 1) ρ, fun σ' H' hN => ⟨m - 1, by omega, hN⟩, fun x H' y => ?_⟩
    obtain ⟨k, iv⟩ := yl x H' y
    have hd : ds[i]? = some ds[i] := List.getElem?_eq_getElem hlt
    have S3 := S2.keep (Keep.none k) (stK_of S2.inv k)
    refine ⟨src ++ an, O1, ρ1, ds[i], _, S3, iv _ hd, jt i _ ρ1 hd ji, fun O4 σ4 ρ4 S4 h4 _ _ => ?_⟩
    refine ⟨src ++ an, O4, ρ4, _, S4, h4, fun O' σ' H' ρ' S' h' => ⟨by omega, O', ρ', S', h'⟩, q2, fun O' σ' H' ρ' S' h' => q1 O' σ' H' ρ' (S'.anm fun p hp => List.mem_append_right _ hp) h', fun O' σ' H' ρ' S' h' => ⟨by omega, O', ρ', S', h'⟩⟩
  · have e : i = ds.length := by omega
    refine .inl ⟨hv.2 (by omega), q1 _ _ _ _ (S2.anm fun p hp => List.mem_append_right _ hp) (je ρ1 (by rw [← e]; exact ji))⟩
def wWhile (wt : WT) (wb : WS) : WS := fun W ρ => ∃ J : Nat → Ev → Prop, (∃ m, J m ρ) ∧ ∀ (m : Nat) (ρ' : Ev), J m ρ' → wt ρ' fun c => if c = true then wb { W with nx := fun ρ2 => ∃ m', m' < m ∧ J m' ρ2, ct := fun ρ2 => ∃ m', m' < m ∧ J m' ρ2, bk := W.nx } ρ' else W.nx ρ'
theorem ds_while {c : Expr} (hp : PassesOwn (model X.prog X.w) X.A X.env X.xe) (hc : PT X c (upT G wt)) (hb : PSs X body (upS G ws)) : PS X (.While c body [] pos) (upS G (wWhile wt ws)) := ps_weak (ps_while hp hc hb) fun D σ H ⟨an, O, ρ, W, S, h, q1, q2, q3, q4⟩ => by
  obtain ⟨J, ⟨m0, j0⟩, jt⟩ := h
  refine ⟨fun m σ H => ∃ O ρ, Sta G an O σ H ρ ∧ J m ρ, ⟨m0, O, ρ, S, j0⟩, ?_⟩
  rintro m σ H ⟨O1, ρ1, S1, j1⟩
  refine ⟨an, O1, ρ1, _, S1, jt m ρ1 j1, fun b H2 hb k i => ?_⟩
  cases b with
  | true =>
    rw [if_pos rfl] at hb ⊢
    refine ⟨fun σ' H' => ∃ m', m' < m ∧ ∃ O ρ, Sta G an O σ' H' ρ ∧ J m' ρ, fun σ' H' hN => hN, an, O1, ρ1, _, S1.keep k i, hb, fun O' σ' H' ρ' S' h' => ?_, q2, fun O' σ' H' ρ' S' h' => q1 O' σ' H' ρ' S' h', fun O' σ' H' ρ' S' h' => ?_⟩
    · obtain ⟨m', l, j⟩ := h'
      exact ⟨m', l, O', ρ', S', j⟩
    · obtain ⟨m', l, j⟩ := h'
      exact ⟨m', l, O', ρ', S', j⟩
  | false =>
    rw [if_neg Bool.false_ne_true] at hb ⊢
    exact q1 _ _ _ _ (S1.keep k i) hb
def wipeE (ρ : Ev) : List Nat → Ev
  | [] => ρ
  | v :: vs => put (wipeE ρ vs) v .u
theorem wipeE_len {ρ : Ev} : ∀ vs : List Nat, (wipeE ρ vs).length = ρ.length
  | [] => rfl
  | v :: vs => by show (put (wipeE ρ vs) v .u).length = _; rw [put_len, wipeE_len vs]
/-- what a slot held is forgotten -/
theorem Sta.drop {an : List (PyData × V)} {O : Nat → Option Addr} {σ : L2.St} {H : Hp} {ρ : Ev} (S : Sta G an O σ H ρ) (i : Nat) (x : Option V) (hno : ∀ ds, nth ρ i ≠ .o ds) : Sta G an O (σ.set i x) H (put ρ i .u) := by
  refine ⟨S.inv, S.kp, S.al, S.ra, S.fr, S.oi, S.ob, fun j p e => ?_, by rw [List.length_set, put_len, S.len], fun j => ?_, S.as⟩
  · rw [put_len]
    rcases S.oe j p e with z | ⟨ds, z⟩
    · exact .inl z
    · have y : j ≠ i := fun y => hno ds (y ▸ z)
      rw [nth_put_ne y]
      exact .inr ⟨ds, z⟩
  by_cases z : j = i
  · rw [z]
    by_cases hl : i < ρ.length
    · rw [nth_put_same hl]; trivial
    · rw [nth_out (by rw [put_len]; omega)]; trivial
  · rw [nth_put_ne z]
    have en := S.en j
    cases hx : nth ρ j with
    | u => trivial
    | d y =>
      rw [hx] at en
      obtain ⟨w, e1, m⟩ := en
      exact ⟨w, by rw [List.getElem?_set_ne (Ne.symm z)]; exact e1, m⟩
    | o xs =>
      rw [hx] at en
      obtain ⟨q, ws, e1, r⟩ := en
      exact ⟨q, ws, by rw [List.getElem?_set_ne (Ne.symm z)]; exact e1, r⟩
    | m =>
      rw [hx] at en
      show (σ.set i x)[j]? = _
      rw [List.getElem?_set_ne (Ne.symm z)]
      exact en
    | s ns =>
      rw [hx] at en
      obtain ⟨q, e1, e2⟩ := en
      exact ⟨q, by rw [List.getElem?_set_ne (Ne.symm z)]; exact e1, e2⟩
/-- a block's own slots hold no list of one's own -/
def noOwn (ρ : Ev) : List Nat → Bool
  | [] => true
  | v :: vs => (match nth ρ v with | .o _ => false | _ => decide (v < ρ.length)) && noOwn ρ vs
theorem noOwn_at {ρ : Ev} : ∀ {vs : List Nat}, noOwn ρ vs = true → ∀ v ∈ vs, v < ρ.length ∧ ∀ ds, nth ρ v ≠ .o ds
  | [], _, _, h => by cases h
  | u :: us, h, v, hv => by
    have h' : (match nth ρ u with | .o _ => false | _ => decide (u < ρ.length)) = true ∧ noOwn ρ us = true := by
      rw [← Bool.and_eq_true]; exact h
    rcases List.mem_cons.mp hv with e | hv
    · rw [e]
      have q := h'.1
      split at q
      · cases q
      · rename_i hx
        exact ⟨of_decide_eq_true q, fun ds z => hx ds z⟩
    · exact noOwn_at h'.2 v hv
theorem nth_wipe_no {ρ : Ev} {i : Nat} : ∀ {vs : List Nat}, (∀ ds, nth ρ i ≠ .o ds) → ∀ ds, nth (wipeE ρ vs) i ≠ .o ds
  | [], h => h
  | v :: vs, h => fun ds z => by
    have z : nth (put (wipeE ρ vs) v .u) i = .o ds := z
    by_cases y : i = v
    · rw [y] at z
      by_cases hl : v < (wipeE ρ vs).length
      · rw [nth_put_same hl] at z; cases z
      · rw [nth_out (by rw [put_len]; omega)] at z; cases z
    · rw [nth_put_ne y] at z
      exact nth_wipe_no h ds z
theorem Sta.wipe {an : List (PyData × V)} {O : Nat → Option Addr} {σ : L2.St} {H : Hp} {ρ : Ev} (S : Sta G an O σ H ρ) : ∀ vs : List Nat, (∀ v ∈ vs, ∀ ds, nth ρ v ≠ .o ds) → Sta G an O (L2.wipe σ vs) H (wipeE ρ vs)
  | [], _ => S
  | v :: vs, h => (S.wipe vs fun u hu => h u (List.mem_cons_of_mem _ hu)).drop v none (nth_wipe_no (h v List.mem_cons_self))
theorem wipe_sub (σ : L2.St) (vs : List Nat) : ∀ us : List Nat, (∀ u ∈ us, u ∈ vs) → L2.wipe (L2.wipe σ us) vs = L2.wipe σ vs
  | [], _ => rfl
  | u :: us, h => by
    show L2.wipe ((L2.wipe σ us).set u none) vs = _
    rw [set_wipe _ u none vs (h u List.mem_cons_self), wipe_sub σ vs us fun v hv => h v (List.mem_cons_of_mem _ hv)]
/-- a list that no slot holds changes -/
theorem Sta.chgP {an : List (PyData × V)} {O : Nat → Option Addr} {σ : L2.St} {H : Hp} {ρ : Ev} (S : Sta G an O σ H ρ) {j : Nat} {p : Addr} {vs vs' : List V} (hj : ρ.length ≤ j) (hO : O j = some p) (hH : H p = some (.lst vs)) : Sta G an O σ (upd H p (.lst vs')) ρ := by
  have nM := S.nM hO
  have n0 : ∀ a o, G.H0 a = some o → a ≠ p := fun a o e z => by rw [z, (S.fr j p hO).1] at e; cases e
  have kN : Keep (Nv G.A O) H (upd H p (.lst vs')) := Keep.set hH (.inr ⟨j, hO⟩)
  refine ⟨G.R.st _ _ S.inv fun a o m e => by rw [upd_ne (show a ≠ p from fun z => m.elim (fun m => nM (by rw [← z]; exact m)) fun m => m vs (Option.some.inj (e.symm.trans (by rw [z]; exact hH))))]; exact e, ⟨fun a o e n => ?_, fun a xs e => ?_, fun a o u e => ?_⟩, S.al, S.ra, fun l q e => ⟨(S.fr l q e).1, ?_⟩, S.oi, S.ob, S.oe, S.len, fun l => ?_, fun q hq => Im.keep kN _ _ (S.as q hq)⟩
  · rw [upd_ne (n0 a o e)]; exact S.kp.ob a o e n
  · rw [upd_ne (n0 a _ e)]; exact S.kp.tp a xs e
  · rw [upd_ne (n0 a _ e)]; exact S.kp.fz a o u e
  · by_cases z : q = p
    · exact ⟨vs', by rw [z, upd_same]⟩
    · obtain ⟨xs, y⟩ := (S.fr l q e).2
      exact ⟨xs, by rw [upd_ne z]; exact y⟩
  · have en := S.en l
    cases hx : nth ρ l with
    | u => trivial
    | d x =>
      rw [hx] at en
      obtain ⟨w, e1, m⟩ := en
      exact ⟨w, e1, Im.keep kN _ _ m⟩
    | o xs =>
      rw [hx] at en
      obtain ⟨q, ws, x1, x2, x3, m⟩ := en
      have ll : l ≠ j := fun y => by rw [y, nth_out hj] at hx; cases hx
      have qp : q ≠ p := fun y => ll (S.oi l j p (y ▸ x2) hO)
      exact ⟨q, ws, x1, x2, by rw [upd_ne qp]; exact x3, ImA.keep kN _ _ m⟩
    | m => rw [hx] at en; exact en
    | s ns =>
      rw [hx] at en
      obtain ⟨q, x1, x2⟩ := en
      exact ⟨q, x1, x2.keep kN⟩
structure DTs (X : Cx) (G : Gx) (ifs : List Expr) (wt : WT) : Prop where
  h : PTs X ifs (upT G wt)
theorem dts_nil : PTs X [] (upT G fun _ Φ => Φ true) := ⟨fun pins sh σ H Q I ⟨an, O, ρ, Φ, S, h, q⟩ => pts_nil.run pins sh σ H Q I (q true H h (Keep.refl H) S.inv)⟩
theorem dts_one (h : PT X c (upT G wt)) : PTs X [c] (upT G wt) := pts_one h
def wLc (wi : WI) (g : WG) (wt : WT) (we : WE) (vs : List Nat) : WF := fun ρ Φ => noOwn ρ vs = true ∧ wi ρ fun ds => ∃ J : Nat → List PyData → Prop, J 0 [] ∧
  (∀ (i : Nat) (d : PyData) (acc : List PyData), ds[i]? = some d → J i acc → acc.length ≤ 100000 → g d (wipeE ρ vs) fun ρ2 => wt ρ2 fun b => if b = true then we ρ2 fun y => acc.length < 100000 ∧ J (i + 1) (acc ++ [y]) else J (i + 1) acc) ∧ ∀ acc, J ds.length acc → Φ acc
theorem up_lc {vs : List Nat} (hv : ∀ i ∈ is, i ∈ vs) (σ : L2.St) (H : Hp) (Q : VK) (h : upF G (wLc wi g wt we vs) σ H Q) : tLc (upI G true wi) (upG G is g) (upT G wt) (up G true we) vs σ H Q := by
  obtain ⟨an, O, ρ, Φ, S, ⟨hno, h⟩, q⟩ := h
  have hno := noOwn_at hno
  refine ⟨an, O, ρ, _, S, h, fun J H1 ds src h1 sv im k1 i1 D hD => ?_⟩
  obtain ⟨JJ, j0, jt, je⟩ := h1
  have S1 := (S.keep k1 i1).ana im
  have hD0 : H D = none := S1.back k1 hD
  obtain ⟨bd, hbd⟩ := S1.ob
  have hj : ρ.length ≤ max bd ρ.length := Nat.le_max_right _ _
  -- what stands between two turns
  have start := S1.own (H' := upd H1 D (.lst [])) hD upd_same (Keep.new hD) (S1.newI hD) (max bd ρ.length) hj
  generalize hO2 : setO O (max bd ρ.length) (some D) = O2 at start
  have oD : O2 (max bd ρ.length) = some D := by rw [← hO2]; exact setO_same
  have nvD : ∀ a, Nv G.A O2 a → Nv G.A O a ∨ a = D := fun a z => by
    rcases z with z | ⟨i, z⟩
    · exact .inl (.inl z)
    · rw [← hO2] at z
      by_cases y : i = max bd ρ.length
      · rw [y, setO_same] at z; cases z; exact .inr rfl
      · rw [setO_ne y] at z; exact .inl (.inr ⟨i, z⟩)
  have nvD' : ∀ a, Nv G.A O a ∨ a = D → Nv G.A O2 a := fun a z => by
    rcases z with (z | ⟨i, z⟩) | z
    · exact .inl z
    · by_cases y : i = max bd ρ.length
      · rw [y, hbd _ (Nat.le_max_left _ _)] at z; cases z
      · exact .inr ⟨i, by rw [← hO2, setO_ne y]; exact z⟩
    · rw [z]; exact .inr ⟨_, oD⟩
  have kD : Keep G.R.M H1 (upd H1 D (.lst [])) := Keep.new hD
  refine ⟨fun i m H' => i + m = ds.length ∧ ∃ acc ws, JJ i acc ∧ acc.length ≤ 100000 ∧ H' D = some (.lst ws) ∧ ImA G.W (Nv G.A O2) H' acc ws ∧ Sta G (src ++ an) O2 σ H' ρ ∧ (∀ a o, a ≠ D → H1 a = some o → ¬ G.R.M a → H' a = some o) ∧ (∀ a xs, H1 a = some (.tup xs) → H' a = some (.tup xs)) ∧ (∀ a o u, H1 a = some (.frz o u) → H' a = some (.frz o u)),
    ⟨ds.length, by omega, [], [], j0, Nat.zero_le _, upd_same, rfl, start, fun a o n e _ => by rw [upd_ne n]; exact e, fun a xs e => kD.tp a xs e, fun a o u e => kD.fz a o u e⟩, ?_⟩
  rintro i m H2 ⟨hm, acc, ws, ja, hl, eD, ia, S2, c1, c2, c3⟩
  have sv2 := sv (Nv G.A O2) H2 i fun p hp => S2.as p (List.mem_append_left _ hp)
  by_cases hlt : i < ds.length
  · obtain ⟨go, yl⟩ := sv2.1 hlt
    refine .inr ⟨go, fun H' => ∃ acc ws, JJ (i + 1) acc ∧ acc.length ≤ 100000 ∧ H' D = some (.lst ws) ∧ ImA G.W (Nv G.A O2) H' acc ws ∧ Sta G (src ++ an) O2 σ H' ρ ∧ (∀ a o, a ≠ D → H1 a = some o → ¬ G.R.M a → H' a = some o) ∧ (∀ a xs, H1 a = some (.tup xs) → H' a = some (.tup xs)) ∧ (∀ a o u, H1 a = some (.frz o u) → H' a = some (.frz o u)), fun H' hN => ⟨m - 1, by omega, by omega, hN⟩, fun x H3 y => ?_⟩
    obtain ⟨k3, iv⟩ := yl x H3 y
    have hd : ds[i]? = some ds[i] := List.getElem?_eq_getElem hlt
    have S3 := S2.keep (Keep.none k3) (stK_of S2.inv k3)
    have dM : ¬ G.R.M D := S2.nM oD
    -- the heap may go on by steps that keep all but the drawn state
    have go_on : ∀ {H4 : Hp}, Keep G.R.M H2 H4 → G.R.I H4 → JJ (i + 1) acc → ∃ acc ws, JJ (i + 1) acc ∧ acc.length ≤ 100000 ∧ H4 D = some (.lst ws) ∧ ImA G.W (Nv G.A O2) H4 acc ws ∧ Sta G (src ++ an) O2 σ H4 ρ ∧ (∀ a o, a ≠ D → H1 a = some o → ¬ G.R.M a → H4 a = some o) ∧ (∀ a xs, H1 a = some (.tup xs) → H4 a = some (.tup xs)) ∧ (∀ a o u, H1 a = some (.frz o u) → H4 a = some (.frz o u)) := fun {H4} k4 i4 j4 =>
      ⟨acc, ws, j4, hl, k4.ob D _ eD dM, ImA.keep (k4.mono fun a m => .inl (S2.ra a m)) _ _ ia, S2.keep k4 i4, fun a o n e m => k4.ob a o (c1 a o n e m) m, fun a xs e => k4.tp a xs (c2 a xs e), fun a o u e => k4.fz a o u (c3 a o u e)⟩
    refine ⟨src ++ an, O2, wipeE ρ vs, ds[i], _, S3.wipe vs fun v hv => (hno v hv).2, iv _ hd, jt i _ acc hd ja hl, fun O4 σ4 ρ4 S4 h4 w4 x4 => ?_⟩
    refine ⟨?_, src ++ an, O4, ρ4, _, S4, h4, fun b H5 hb k5 i5 => ?_⟩
    · rw [w4 vs hv]
      exact wipe_sub σ vs vs fun _ h => h
    · have k25 := (Keep.none (M := G.R.M) k3).trans k5
      cases b with
      | false =>
        rw [if_neg Bool.false_ne_true] at hb
        show (if false = true then _ else _)
        rw [if_neg Bool.false_ne_true]
        exact go_on k25 i5 hb
      | true =>
        rw [if_pos rfl] at hb
        show (if true = true then _ else _)
        rw [if_pos rfl]
        refine ⟨src ++ an, O4, ρ4, _, S4.keep k5 i5, hb, fun y H6 d6 h6 im6 k6 i6 => ?_⟩
        have k26 := k25.trans k6
        have eD6 := k26.ob D _ eD dM
        refine ⟨ws, eD6, ?_, ?_⟩
        · rw [ImA.length ia]; exact Nat.lt_of_lt_of_le h6.1 (by decide)
        · have sub : ∀ a, Nv G.A O2 a → Nv G.A O4 a := fun a z => by
            rcases z with z | ⟨l, z⟩
            · exact .inl z
            · rcases x4 l a z with y | y
              · obtain ⟨y1, y2⟩ := hno l (hv l y)
                rcases S2.oe l a z with w | ⟨ds, w⟩
                · omega
                · exact absurd w (y2 ds)
              · exact .inr ⟨l, y⟩
          have im7 : Im G.W (Nv G.A O2) H6 d6 y := Im.avoid (fun a o _ z => sub a z) _ _ im6
          have S6 := S2.keep k26 i6
          have ia6 := ImA.keep (k26.mono fun a m => .inl (S2.ra a m)) _ _ ia
          have kD6 : Keep (Nv G.A O2) H6 (upd H6 D (.lst (ws ++ [y]))) := Keep.set eD6 (.inr ⟨_, oD⟩)
          refine ⟨acc ++ [d6], ws ++ [y], h6.2, by rw [List.length_append]; exact h6.1, upd_same, ?_, S6.chgP hj oD eD6, fun a o n e m => ?_, fun a xs e => ?_, fun a o u e => ?_⟩
          · exact ImA.keep kD6 _ _ (ImA.append ia6 (ImA.one im7))
          · rw [upd_ne n]; exact k26.ob a o (c1 a o n e m) m
          · exact kD6.tp a xs (k26.tp a xs (c2 a xs e))
          · exact kD6.fz a o u (k26.fz a o u (c3 a o u e))
  · have e : i = ds.length := by omega
    refine .inl ⟨sv2.2 (by omega), q D H2 acc ws (je acc (by rw [← e]; exact ja)) hD0 eD (ImA.avoid (fun a o _ z => nvD' a z) _ _ ia) ?_ S2.inv⟩
    exact ⟨fun a o e1 m => c1 a o (ne_of_none e1 hD0) (k1.ob a o e1 m) m, fun a xs e1 => c2 a xs (k1.tp a xs e1), fun a o u e1 => c3 a o u (k1.fz a o u e1)⟩
end
end DL

namespace DL
open PySem PySem.Spec PyProof.Rows L2

structure Rg (k : Nat) (A : Around) : Prop where
  room : Room k A
  free : A.guards = some []
theorem Rg.mono {j k : Nat} {A : Around} (r : Rg k A) (h : j ≤ k) : Rg j A := ⟨r.room.mono h, r.free⟩
theorem Rg.deeper {k : Nat} {A : Around} (r : Rg (k + 1) A) (env : Env) : Rg k (A.deeper env) := ⟨r.room.deeper env, r.free⟩

section
variable (P : Program) (w : World) (K : PySem.W.Frag) (mg : Str → Option Value) (base : Heap) (CX : CXT)
/-- the def at f, called where nothing is shown, keeps sp -/
structure FnG (k : Nat) (f : Addr) (fd : FuncData) (ps : List Str) (sp : Sp) : Prop where
  size : ∀ vs H Q E, sp vs H Q E → vs.length = ps.length
  goes : ∀ (A : Around) (env : List Env) (s : Shared) (H : Hp) (args : Args) (us : List Value) (vs : List V) (Q : VK) (E : XK), Rg k A →
    Env0 P w K mg base A env s H → BindsTo s fd args (ps.zip us) → Vals vs us → sp vs H Q E → codeAny (model P w) A (.call (.ref f) args) (CR CX env P w H s Q E) s
end
section
variable {P : Program} {w : World} {K : PySem.W.Frag} {mg : Str → Option Value} {base : Heap} {CX : CXT} {k : Nat} {f : Addr} {fd : FuncData} {ps : List Str} {sp : Sp}
theorem FnG.up {j : Nat} (F : FnG P w K mg base CX j f fd ps sp) (h : j ≤ k) : FnG P w K mg base CX k f fd ps sp :=
  ⟨F.size, fun A env s H args us vs Q E hr => F.goes A env s H args us vs Q E (hr.mono h)⟩
theorem FnG.of (F : FnOk P w K mg base CX k f fd ps sp) : FnG P w K mg base CX k f fd ps sp :=
  ⟨F.len, fun A env s H args us vs Q E hr => F.run A env s H args us vs Q E hr.room⟩
/-- a def of the text, by its body -/
theorem FnG.mk' {x qual : Str} {st : Stmt} {N : List Str} (F : Fun K x qual st f fd) (S : FnScope N ps (defScope st)) (size : ∀ vs H Q E, sp vs H Q E → vs.length = ps.length)
    (body : ∀ (cdv : Value) (A : Around) (env : List Env) (s : Shared) (H : Hp) (vs : List V) (Q : VK) (E : XK), Rg k (A.deeper (envOfC qual (defScope st) s.heap.objs.size f cdv)) → sp vs H Q E →
      ∃ t, PSs (cxOf CX P w K mg base N qual (defScope st) f cdv A env s H E) (defBody st) t ∧ t { nx := fun _ H2 => Q .non H2, rt := Q } (start N vs) H) : FnG P w K mg base CX (k + 1) f fd ps sp := by
  obtain ⟨oc, od, kV, doc, pm, an, cdv, ct, osl, rfl, lk, hcd⟩ := F.ex
  refine ⟨size, fun A env s H args us vs Q E hr e0 hb rv hsp => ?_⟩
  have keepK := e0.mod.kin.keeps fun b o e => (e0.bs b o e).1
  have keepL := e0.mod.nolimit.keeps fun b o e => (e0.bs b o e).1
  have kinds : ∀ y ∈ ps.zip us, (defScope st).names.lookup y.1 = some .local ∨ ((defScope st).names.lookup y.1 = some .cell ∧ ((cellsFrom (s.heap.objs.size + 1) (defScope st).names []).lookup y.1).isSome = true) := by
    rintro ⟨n, v⟩ hy
    exact (S.par n (List.of_mem_zip hy).1).elim .inl fun q => .inr ⟨q, PySem.W.cellsFrom_some _ _ _ (.inl q)⟩
  refine codeAny_call_function hr.room.depth (keepK _ _ lk) rfl S.co S.gen rfl (PySem.W.codeRec_of keepK hcd) (hb _ _ _ _ ?_)
  refine wpAny_newFunctionEnv_cells S.kind kinds fun e he s1 hc => ?_
  subst he
  refine ⟨keepL.keeps hc.toInCall.keep, codeAny_func ?_⟩
  obtain ⟨t, pt, q⟩ := body cdv A env s H vs Q E (hr.deeper _) hsp
  have I0 := inv_start (CX := CX) (P := P) (w := w) (cd := cdv) (qual := qual) (E := E) S hr.room.hd e0 (size _ _ _ _ hsp) rv hc
  refine wpAny_mono (pt.run [] s1 _ H _ I0 q) (fun fl s2 ends => ?_) fun _ _ z => z
  cases fl with
  | next => obtain ⟨_, H2, J, z⟩ := ends; exact ⟨.non, H2, J.os, J.bare, J.base, J.hok, rfl, z⟩
  | ret u => obtain ⟨v, _, H2, J, r2, z⟩ := ends; exact ⟨v, H2, J.os, J.bare, J.base, J.hok, r2, z⟩
  | brk => obtain ⟨_, _, _, z⟩ := ends; exact z.elim
  | cont => obtain ⟨_, _, _, z⟩ := ends; exact z.elim
end

/-- the parameters' order among positional and keyword values -/
def perm {α : Type} (idx : List Nat) (xs : List α) : List α := idx.filterMap fun i => xs[i]?
theorem perm_len {α : Type} {xs : List α} : ∀ idx : List Nat, (perm idx xs).length = (perm idx (List.range xs.length)).length
  | [] => rfl
  | i :: r => by
    have ih := perm_len (xs := xs) r
    unfold perm at ih ⊢
    by_cases hi : i < xs.length
    · rw [List.filterMap_cons_some (List.getElem?_eq_getElem hi), List.filterMap_cons_some (b := i) (by rw [List.getElem?_range hi]), List.length_cons, List.length_cons, ih]
    · rw [List.filterMap_cons_none (List.getElem?_eq_none (by omega)), List.filterMap_cons_none (List.getElem?_eq_none (by simp; omega)), ih]
structure Kb (K : PySem.W.Frag) (fd : FuncData) (ps ks : List Str) (n : Nat) (idx : List Nat) : Prop where
  to : ∀ (us ws : List Value), us.length = n → ws.length = ks.length → bindArgs fd ⟨us, ks.zip ws⟩ = pure (ps.zip (perm idx (us ++ ws)))
theorem Kb.of {K : PySem.W.Frag} {x qual : Str} {st : Stmt} {f : Addr} {fd : FuncData} {ps ks : List Str} {n : Nat} {idx : List Nat} (F : Fun K x qual st f fd)
    (h : ∀ (kV doc pm : Value) (an : Option Addr) (cdv ct : Value) (us ws : List Value), us.length = n → ws.length = ks.length → bindArgs (PySem.W.fnOf x qual (defArgs st) (defBody st) (defScope st) .none kV doc pm an cdv ct) ⟨us, ks.zip ws⟩ = pure (ps.zip (perm idx (us ++ ws)))) :
    Kb K fd ps ks n idx := by
  obtain ⟨oc, od, kV, doc, pm, an, cdv, ct, osl, rfl, lk, hcd⟩ := F.ex
  exact ⟨h kV doc pm an cdv ct⟩
section
variable {W : Wd} {N : Addr → Prop} {H : Hp}
theorem ImA.perm {ds : List PyData} {vs : List V} (h : ImA W N H ds vs) : ∀ idx : List Nat, ImA W N H (DL.perm idx ds) (DL.perm idx vs)
  | [] => rfl
  | i :: r => by
    have ih := ImA.perm h r
    show ImA W N H (List.filterMap (fun i => ds[i]?) (i :: r)) (List.filterMap (fun i => vs[i]?) (i :: r))
    cases e : ds[i]? with
    | none =>
      have e2 : vs[i]? = none := by
        rw [List.getElem?_eq_none_iff] at e ⊢
        rw [ImA.length h]; exact e
      rw [List.filterMap_cons_none e, List.filterMap_cons_none e2]
      exact ih
    | some d =>
      obtain ⟨v, e2, im⟩ := ImA.get h e
      rw [List.filterMap_cons_some e, List.filterMap_cons_some e2]
      exact ⟨v, _, rfl, im, ih⟩
theorem vals_perm {vs : List V} {us : List Value} (h : Vals vs us) : ∀ idx : List Nat, Vals (perm idx vs) (perm idx us)
  | [] => .nil
  | i :: r => by
    have ih := vals_perm h r
    show Vals (List.filterMap (fun i => vs[i]?) (i :: r)) (List.filterMap (fun i => us[i]?) (i :: r))
    cases e : vs[i]? with
    | none =>
      have e2 : us[i]? = none := by
        rw [List.getElem?_eq_none_iff] at e ⊢
        rw [← h.length]; exact e
      rw [List.filterMap_cons_none e, List.filterMap_cons_none e2]
      exact ih
    | some d =>
      obtain ⟨v, e2, im⟩ := h.get e
      rw [List.filterMap_cons_some e, List.filterMap_cons_some e2]
      exact .cons im ih
end

abbrev FD := List PyData → (PyData → Prop) → Prop
def spP (W : Wd) (n : Nat) (F : FD) : Sp := fun vs H Q _ => ∃ (N : Addr → Prop) (ds : List PyData) (Φ : PyData → Prop), vs.length = n ∧ (∀ a, N a → ∃ o, H a = some o) ∧ ImA W N H ds vs ∧ F ds Φ ∧
  ∀ v H' d, Φ d → Im W N H' d v → Keep (fun _ => False) H H' → Q v H'
/-- the same with the drawn state as first argument -/
def spR (W : Wd) (RR : Addr → Addr → Res) (n : Nat) (F : FD) : Sp := fun vs H Q _ => ∃ (b c : Addr) (N : Addr → Prop) (ds : List PyData) (vs' : List V) (Φ : PyData → Prop), vs = .ref (RR b c).b :: vs' ∧ vs.length = n ∧ (RR b c).I H ∧ (∀ a, (RR b c).M a → N a) ∧
  (∀ a, N a → ∃ o, H a = some o) ∧ ImA W N H ds vs' ∧ F ds Φ ∧ ∀ v H' d, Φ d → Im W N H' d v → Keep (RR b c).M H H' → (RR b c).I H' → Q v H'
def retX (Φ : PyData → Prop) : WX := ⟨fun _ => Φ .none, Φ, fun _ => False, fun _ => False⟩
def ev0 (n : Nat) (ds : List PyData) : Ev := ds.map .d ++ List.replicate (n - ds.length) .u
def ev1 (n : Nat) (ds : List PyData) : Ev := .m :: (ds.map .d ++ List.replicate (n - (ds.length + 1)) .u)
section
variable {W : Wd} {N : Addr → Prop} {H : Hp}
theorem nth_ev {es : Ev} {i : Nat} : nth es i = (es[i]?).getD .u := by
  induction es generalizing i with
  | nil => rfl
  | cons e r ih =>
    cases i with
    | zero => rfl
    | succ j => show nth r j = _; rw [ih]; rfl
theorem sta_start {P : Prop} {G : Gx} {ns : List Str} {ds : List PyData} {vs : List V} (hl : ds.length ≤ ns.length) (hI : G.R.I G.H0) (al : ∀ a, G.A a → ∃ o, G.H0 a = some o) (ra : ∀ a, G.R.M a → G.A a) (im : ImA G.W G.A G.H0 ds vs) :
    Sta G [] (fun _ => none) (start ns vs) G.H0 (ev0 ns.length ds) := by
  have lv := ImA.length im
  have avo : ∀ {d v}, Im G.W G.A G.H0 d v → Im G.W (Nv G.A fun _ => none) G.H0 d v := fun {d v} m => Im.avoid (fun a o _ z => z.elim id fun ⟨i, e⟩ => nomatch e) d v m
  refine ⟨hI, Keep.refl _, al, ra, fun i p e => (nomatch e), fun i j p e => (nomatch e), ⟨0, fun _ _ => rfl⟩, fun i p e => (nomatch e), ?_, fun i => ?_, fun p hp => (nomatch hp)⟩
  · unfold L2.start ev0
    simp only [List.length_append, List.length_map, List.length_replicate, lv]
  · rw [nth_ev]
    unfold ev0
    by_cases hi : i < ds.length
    · rw [List.getElem?_append_left (by simpa using hi), List.getElem?_map, List.getElem?_eq_getElem hi]
      obtain ⟨v, hv, m⟩ := ImA.get im (List.getElem?_eq_getElem hi)
      refine ⟨v, ?_, avo m⟩
      unfold L2.start
      rw [List.getElem?_append_left (by simp; omega), List.getElem?_map, hv]
      rfl
    · rw [List.getElem?_append_right (by simpa using hi), List.getElem?_replicate]
      split <;> trivial
theorem sta_startR {G : Gx} {ns : List Str} {ds : List PyData} {vs : List V} (hl : ds.length + 1 ≤ ns.length) (hI : G.R.I G.H0) (al : ∀ a, G.A a → ∃ o, G.H0 a = some o) (ra : ∀ a, G.R.M a → G.A a) (im : ImA G.W G.A G.H0 ds vs) :
    Sta G [] (fun _ => none) (start ns (.ref G.R.b :: vs)) G.H0 (ev1 ns.length ds) := by
  have lv := ImA.length im
  have avo : ∀ {d v}, Im G.W G.A G.H0 d v → Im G.W (Nv G.A fun _ => none) G.H0 d v := fun {d v} m => Im.avoid (fun a o _ z => z.elim id fun ⟨i, e⟩ => nomatch e) d v m
  refine ⟨hI, Keep.refl _, al, ra, fun i p e => (nomatch e), fun i j p e => (nomatch e), ⟨0, fun _ _ => rfl⟩, fun i p e => (nomatch e), ?_, fun i => ?_, fun p hp => (nomatch hp)⟩
  · unfold L2.start ev1
    simp only [List.length_append, List.length_map, List.length_replicate, List.length_cons, lv]
    omega
  · cases i with
    | zero => rfl
    | succ i =>
      rw [nth_ev]
      unfold ev1
      rw [List.getElem?_cons_succ]
      by_cases hi : i < ds.length
      · rw [List.getElem?_append_left (by simpa using hi), List.getElem?_map, List.getElem?_eq_getElem hi]
        obtain ⟨v, hv, m⟩ := ImA.get im (List.getElem?_eq_getElem hi)
        refine ⟨v, ?_, avo m⟩
        unfold L2.start
        rw [List.getElem?_append_left (by simp; omega), List.getElem?_map, List.getElem?_cons_succ, hv]
        rfl
      · rw [List.getElem?_append_right (by simpa using hi), List.getElem?_replicate]
        split <;> trivial
end
section
variable {P : Program} {w : World} {mg : Str → Option Value} {base : Heap} {W : Wd} {k : Nat} {f : Addr} {fd : FuncData} {ps N : List Str} {x qual : Str} {st : Stmt} {F : FD}
/-- a def that takes data and gives data -/
theorem ok_pure (Fn : Fun W.K x qual st f fd) (S : FnScope N ps (defScope st)) (hn : ps.length ≤ N.length) (len : ∀ ds Φ, F ds Φ → ds.length = ps.length)
    (body : ∀ (cdv : Value) (A : Around) (env : List Env) (s : Shared) (H : Hp) (E : XK) (N0 : Addr → Prop), Rg k (A.deeper (envOfC qual (defScope st) s.heap.objs.size f cdv)) →
      ∃ ws, PSs (cxOf CX0 P w W.K mg base N qual (defScope st) f cdv A env s H E).nox (defBody st) (upS ⟨W, Res.none, N0, H⟩ ws) ∧ ∀ ds Φ, F ds Φ → ws (retX Φ) (ev0 N.length ds)) :
    FnG P w W.K mg base CX0 (k + 1) f fd ps (spP W ps.length F) := by
  refine FnG.mk' Fn S (fun vs H Q E h => ?_) fun cdv A env s H vs Q E hr h => ?_
  · obtain ⟨N', ds, Φ, hl, _⟩ := h
    exact hl
  · obtain ⟨N', ds, Φ, hl, al, im, hF, q⟩ := h
    obtain ⟨ws, pt, hw⟩ := body cdv A env s H E N' hr
    refine ⟨_, pt.nox, [], _, _, retX Φ, sta_start (P := True) (by have := len ds Φ hF; omega) True.intro al (fun a z => z.elim) im, hw ds Φ hF, ?_, ?_, ?_, ?_⟩
    · exact fun O2 σ2 H2 ρ2 S2 z => q .non H2 .none z rfl S2.kp
    · exact fun v H2 d z m kk _ => q v H2 d z m kk
    · exact fun O2 σ2 H2 ρ2 S2 z => z
    · exact fun O2 σ2 H2 ρ2 S2 z => z
theorem ok_draw {RR : Addr → Addr → Res} (Fn : Fun W.K x qual st f fd) (S : FnScope N ps (defScope st)) (hn : ps.length ≤ N.length) (len : ∀ ds Φ, F ds Φ → ds.length + 1 = ps.length)
    (body : ∀ (cdv : Value) (A : Around) (env : List Env) (s : Shared) (H : Hp) (E : XK) (N0 : Addr → Prop) (b c : Addr), Rg k (A.deeper (envOfC qual (defScope st) s.heap.objs.size f cdv)) →
      ∃ ws, PSs (cxOf CX0 P w W.K mg base N qual (defScope st) f cdv A env s H E).nox (defBody st) (upS ⟨W, RR b c, N0, H⟩ ws) ∧ ∀ ds Φ, F ds Φ → ws (retX Φ) (ev1 N.length ds)) :
    FnG P w W.K mg base CX0 (k + 1) f fd ps (spR W RR ps.length F) := by
  refine FnG.mk' Fn S (fun vs H Q E h => ?_) fun cdv A env s H vs Q E hr h => ?_
  · obtain ⟨b, c, N', ds, vs', Φ, _, hl, _⟩ := h
    exact hl
  · obtain ⟨b, c, N', ds, vs', Φ, rfl, hl, hI, ra, al, im, hF, q⟩ := h
    obtain ⟨ws, pt, hw⟩ := body cdv A env s H E N' b c hr
    refine ⟨_, pt.nox, [], _, _, retX Φ, sta_startR (G := ⟨W, RR b c, N', H⟩) (by have := len ds Φ hF; omega) hI al ra im, hw ds Φ hF, ?_, ?_, ?_, ?_⟩
    · exact fun O2 σ2 H2 ρ2 S2 z => q .non H2 .none z rfl S2.kp S2.inv
    · exact fun v H2 d z m kk i => q v H2 d z m kk i
    · exact fun O2 σ2 H2 ρ2 S2 z => z
    · exact fun O2 σ2 H2 ρ2 S2 z => z
end
section
variable {X : Cx} {G : Gx} {pos p : Pos} {s : Bool} {e : Expr} {es : List Expr} {wr wk : WA} {kws : List Keyword} {x : Str} {k n : Nat} {f : Addr} {fd : FuncData} {ps ks : List Str} {sp : Sp} {F : FD} {idx : List Nat} {E : XK} {t tk : TA} {CX : CXT}
/-- the values of the keywords -/
theorem dk_nil : PK X [] (upA G s wNil) := ⟨fun pos pins sh σ H Q I ⟨an, O, ρ, Φ, S, h, q⟩ => pk_nil.run pos pins sh σ H Q I (q [] H [] h rfl (Keep.refl H) S.inv)⟩
theorem dk_cons {nm : Option Str} {kp : Pos} {wa : WE} (ha : PE X e (up G s wa)) (hr : PK X kws (upA G s wr)) : PK X (⟨nm, e, kp⟩ :: kws) (upA G s (wCons wa wr)) := ⟨fun pos pins sh σ H Q I ⟨an, O, ρ, Φ, S, h, q⟩ => by
  refine (pk_cons ha hr).run pos pins sh σ H Q I ⟨an, O, ρ, _, S, h, fun v H1 d h1 im k1 i1 => ?_⟩
  refine ⟨an, O, ρ, _, S.keep k1 i1, h1, fun vs H2 ds h2 im2 k2 i2 => ?_⟩
  exact q (v :: vs) H2 (d :: ds) h2 ⟨v, vs, rfl, (S.keep k1 i1).im k2 im, im2⟩ (k1.trans k2) i2⟩
theorem goG {pins : List (Addr × Obj)} {σ : L2.St} {H : Hp} {sh : Shared} {Q : VK} {us ws : List Value} {vs zs : List V} (Fn : FnG X.prog X.w X.K X.mg X.base CX k f fd ps sp) (hr : Rg k X.A) (hb : Kb X.K fd ps ks n idx) (hx : Passes CX X E)
    (I : Inv X pins σ H sh) (r : Vals vs us) (rz : Vals zs ws) (l1 : vs.length = n) (l2 : zs.length = ks.length) (h : sp (perm idx (vs ++ zs)) H Q E) : wpAny (model X.prog X.w) X.A (call (.ref f) us (ks.zip ws)) (EP X pins σ Q) X.xe sh := by
  have b := hb.to us ws (r.length.symm.trans l1) (rz.length.symm.trans l2)
  refine wpAny_call (codeAny_mono (Fn.goes X.A X.stack sh H _ _ _ Q E hr I.env0 (.of_eq b) (vals_perm (r.append rz) idx) h) fun res s2 hq => ?_)
  rcases res with e | fl
  · exact hx pins σ H sh e s2 I hq
  · cases fl <;> first | exact I.after hq | exact False.elim hq
def tG (sp : Sp) (n m : Nat) (idx : List Nat) (E : XK) (t tk : TA) : TE := fun σ H Q => t σ H fun vs H1 => tk σ H1 fun zs H2 => vs.length = n ∧ zs.length = m ∧ sp (perm idx (vs ++ zs)) H2 Q E
theorem pe_callGP (Fn : FnG X.prog X.w X.K X.mg X.base CX k f fd ps sp) (hr : Rg k X.A) (hb : Kb X.K fd ps [] n idx) (hx : Passes CX X E) (hg : Gl X x) (hm : X.mg x = some (.ref f)) (hk : PySem.W.keepIn X.K (.ref f) = true) (ha : PA X (e :: es) t)
    (hdb : (x == ("__debug__" : Str)) = false := by decide) (he : starEach (e :: es) X.env = (false, eval e X.env) :: starEach es X.env := by rfl) (hpl : (backTo pos (starEach es X.env)).any (·.1) = false := by rfl) :
    PE X (.Call (.Name x p) (e :: es) [] pos) (tG sp n 0 idx E t tNil) := ⟨fun pins sh σ H Q I h => by
  refine wpAny_Call_Name_kw (ld_glob I hg hm ?_ hdb)
  refine PySem.W.callWith_K (h₀ := X.base) I.ok.mod.kin hk (thn (ha.run pos pins sh σ H _ I h) fun us s1 ⟨vs, H1, I1, r, l1, l2, q⟩ => ⟨I1.kIn, ?_⟩) he hpl
  exact goG (ks := []) (ws := []) Fn hr hb hx I1 r .nil l1 l2 q⟩
theorem pe_callGK (Fn : FnG X.prog X.w X.K X.mg X.base CX k f fd ps sp) (hr : Rg k X.A) (hb : Kb X.K fd ps ks n idx) (hx : Passes CX X E) (hg : Gl X x) (hm : X.mg x = some (.ref f)) (hk : PySem.W.keepIn X.K (.ref f) = true) (ha : PA X (e :: es) t) (hkw : PK X kws tk)
    (hall : (backToKw pos (keywordEach kws X.env)).all (·.1.isSome) = true := by rfl) (hks : (backToKw pos (keywordEach kws X.env)).filterMap (·.1) = ks := by rfl) (hdb : (x == ("__debug__" : Str)) = false := by decide)
    (he : starEach (e :: es) X.env = (false, eval e X.env) :: starEach es X.env := by rfl) (hpl : ((backTo pos (starEach (e :: es) X.env)).any (·.1) || (backToKw pos (keywordEach kws X.env)).any (·.1.isNone)) = false := by rfl) :
    PE X (.Call (.Name x p) (e :: es) kws pos) (tG sp n ks.length idx E t tk) := ⟨fun pins sh σ H Q I h => by
  refine wpAny_Call_Name_kw (ld_glob I hg hm ?_ hdb)
  refine PySem.W.callWith_KW (h₀ := X.base) I.ok.mod.kin hk hall (thn (ha.run pos pins sh σ H _ I h) fun us s1 ⟨vs, H1, I1, r, q⟩ => thn (hkw.run pos pins s1 σ H1 _ I1 q) fun ws s2 ⟨zs, H2, I2, rz, l1, l2, q2⟩ => ⟨I2.kIn, ?_⟩) hpl he
  rw [hks]
  exact goG Fn hr hb hx I2 r rz l1 l2 q2⟩
theorem pe_callG0 (Fn : FnG X.prog X.w X.K X.mg X.base CX k f fd ps sp) (hr : Rg k X.A) (hb : Kb X.K fd ps ks 0 idx) (hx : Passes CX X E) (hg : Gl X x) (hm : X.mg x = some (.ref f)) (hk : PySem.W.keepIn X.K (.ref f) = true) (hkw : PK X kws tk)
    (hall : (backToKw pos (keywordEach kws X.env)).all (·.1.isSome) = true := by rfl) (hks : (backToKw pos (keywordEach kws X.env)).filterMap (·.1) = ks := by rfl) (hdb : (x == ("__debug__" : Str)) = false := by decide)
    (hpl : ((backTo pos (starEach [] X.env)).any (·.1) || (backToKw pos (keywordEach kws X.env)).any (·.1.isNone)) = false := by rfl) :
    PE X (.Call (.Name x p) [] kws pos) (tG sp 0 ks.length idx E tNil tk) := ⟨fun pins sh σ H Q I h => by
  refine wpAny_Call_Name_kw (ld_glob I hg hm ?_ hdb)
  refine PySem.W.callWith_KW0 (h₀ := X.base) I.ok.mod.kin hk hall (thn (hkw.run pos pins sh σ H _ I h) fun ws s2 ⟨zs, H2, I2, rz, l1, l2, q2⟩ => ⟨I2.kIn, ?_⟩) hpl
  rw [hks]
  exact goG (us := []) (vs := []) Fn hr hb hx I2 .nil rz l1 l2 q2⟩
/-- data in, data out -/
def wG (F : FD) (n m : Nat) (idx : List Nat) (wr wk : WA) : WE := fun ρ Φ => wr ρ fun xs => wk ρ fun ys => xs.length = n ∧ ys.length = m ∧ F (perm idx (xs ++ ys)) Φ
theorem up_G {m : Nat} (hp : (perm idx (List.range (n + m))).length = ps.length) (σ : L2.St) (H : Hp) (Q : VK) (h : up G s (wG F n m idx wr wk) σ H Q) : tG (spP G.W ps.length F) n m idx E (upA G s wr) (upA G s wk) σ H Q := by
  obtain ⟨an, O, ρ, Φ, S, h, q⟩ := h
  refine ⟨an, O, ρ, _, S, h, fun vs H1 ds h1 im k1 i1 => ?_⟩
  have S1 := S.keep k1 i1
  refine ⟨an, O, ρ, _, S1, h1, fun zs H2 es h2 im2 k2 i2 => ?_⟩
  have S2 := S1.keep k2 i2
  obtain ⟨l1, l2, hF⟩ := h2
  have ia := ImA.append (S1.ima k2 im) im2
  have lp : (perm idx (vs ++ zs)).length = ps.length := by
    rw [perm_len, List.length_append, ImA.length im, ImA.length im2, l1, l2]
    exact hp
  refine ⟨(ImA.length im).trans l1, (ImA.length im2).trans l2, Nn G O s, _, Φ, lp, fun a z => S2.there (nn_v z), ImA.perm ia idx, hF, fun v H3 d hd im3 k3 => ?_⟩
  have k3' : Keep G.R.M H2 H3 := k3.mono fun a z => z.elim
  exact q v H3 d hd im3 ((k1.trans k2).trans k3') (G.R.st _ _ i2 fun a o _ e => k3.ob a o e id)

structure Cal (P : Program) (w : World) (K : PySem.W.Frag) (mg : Str → Option Value) (base : Heap) (k : Nat) (x : Str) (st : Stmt) (ps : List Str) (sp : Sp) : Prop where
  ex : ∃ (f : Addr) (fd : FuncData), Fun K x x st f fd ∧ mg x = some (.ref f) ∧ FnG P w K mg base CX0 k f fd ps sp
/-- how x's parameters are bound -/
def KbS (x : Str) (st : Stmt) (ps ks : List Str) (n : Nat) (idx : List Nat) : Prop := ∀ (kV doc pm : Value) (an : Option Addr) (cdv ct : Value) (us ws : List Value), us.length = n → ws.length = ks.length →
  bindArgs (PySem.W.fnOf x x (defArgs st) (defBody st) (defScope st) .none kV doc pm an cdv ct) ⟨us, ks.zip ws⟩ = pure (ps.zip (perm idx (us ++ ws)))
variable {j : Nat} {st : Stmt}
theorem de_callP (C : Cal X.prog X.w G.W.K X.mg X.base k x st ps (spP G.W ps.length F)) (hK : X.K = G.W.K) (hr : Rg j X.A) (hb : KbS x st ps [] n idx) (hkj : k ≤ j) (hg : Gl X x) (ha : PA X (e :: es) (upA G s wr)) (hp : (perm idx (List.range (n + 0))).length = ps.length := by rfl)
    (hdb : (x == ("__debug__" : Str)) = false := by decide) (he : starEach (e :: es) X.env = (false, eval e X.env) :: starEach es X.env := by rfl) (hpl : (backTo pos (starEach es X.env)).any (·.1) = false := by rfl) :
    PE X (.Call (.Name x p) (e :: es) [] pos) (up G s (wG F n 0 idx wr wNil)) := by
  obtain ⟨f, fd, Fn, hm, Fg⟩ := C.ex
  rw [← hK] at Fn Fg
  refine pe_weak (pe_callGP (E := fun _ _ _ => False) Fg (hr.mono hkj) (Kb.of Fn hb) pass0 hg hm Fn.kp ha hdb he hpl) fun σ H Q h => ?_
  obtain ⟨an, O, ρ, Φ, S, h, q⟩ := up_G (E := fun _ _ _ => False) hp σ H Q h
  refine ⟨an, O, ρ, _, S, h, fun vs H1 ds h1 im k1 i1 => ?_⟩
  obtain ⟨an2, O2, ρ2, Φ2, S2, h2, q2⟩ := q vs H1 ds h1 im k1 i1
  exact q2 [] H1 [] h2 rfl (Keep.refl _) S2.inv
theorem de_callPK (C : Cal X.prog X.w G.W.K X.mg X.base k x st ps (spP G.W ps.length F)) (hK : X.K = G.W.K) (hr : Rg j X.A) (hb : KbS x st ps ks n idx) (hkj : k ≤ j) (hg : Gl X x) (ha : PA X (e :: es) (upA G s wr)) (hkw : PK X kws (upA G s wk)) (hp : (perm idx (List.range (n + ks.length))).length = ps.length := by rfl)
    (hall : (backToKw pos (keywordEach kws X.env)).all (·.1.isSome) = true := by rfl) (hks : (backToKw pos (keywordEach kws X.env)).filterMap (·.1) = ks := by rfl) (hdb : (x == ("__debug__" : Str)) = false := by decide)
    (he : starEach (e :: es) X.env = (false, eval e X.env) :: starEach es X.env := by rfl) (hpl : ((backTo pos (starEach (e :: es) X.env)).any (·.1) || (backToKw pos (keywordEach kws X.env)).any (·.1.isNone)) = false := by rfl) :
    PE X (.Call (.Name x p) (e :: es) kws pos) (up G s (wG F n ks.length idx wr wk)) := by
  obtain ⟨f, fd, Fn, hm, Fg⟩ := C.ex
  rw [← hK] at Fn Fg
  exact pe_weak (pe_callGK (E := fun _ _ _ => False) Fg (hr.mono hkj) (Kb.of Fn hb) pass0 hg hm Fn.kp ha hkw hall hks hdb he hpl) fun σ H Q h => up_G hp σ H Q h
theorem de_callP0 (C : Cal X.prog X.w G.W.K X.mg X.base k x st ps (spP G.W ps.length F)) (hK : X.K = G.W.K) (hr : Rg j X.A) (hb : KbS x st ps ks 0 idx) (hkj : k ≤ j) (hg : Gl X x) (hkw : PK X kws (upA G s wk)) (hp : (perm idx (List.range (0 + ks.length))).length = ps.length := by rfl)
    (hall : (backToKw pos (keywordEach kws X.env)).all (·.1.isSome) = true := by rfl) (hks : (backToKw pos (keywordEach kws X.env)).filterMap (·.1) = ks := by rfl) (hdb : (x == ("__debug__" : Str)) = false := by decide)
    (hpl : ((backTo pos (starEach [] X.env)).any (·.1) || (backToKw pos (keywordEach kws X.env)).any (·.1.isNone)) = false := by rfl) :
    PE X (.Call (.Name x p) [] kws pos) (up G s (wG F 0 ks.length idx wNil wk)) := by
  obtain ⟨f, fd, Fn, hm, Fg⟩ := C.ex
  rw [← hK] at Fn Fg
  refine pe_weak (pe_callG0 (E := fun _ _ _ => False) Fg (hr.mono hkj) (Kb.of Fn hb) pass0 hg hm Fn.kp hkw hall hks hdb hpl) fun σ H Q h => ?_
  obtain ⟨an, O, ρ, Φ, S, h, q⟩ := up_G (E := fun _ _ _ => False) hp σ H Q h
  exact q [] H [] h rfl (Keep.refl _) S.inv
/-- the same with the drawn state, in slot i, as first argument -/
def wGR (i : Nat) (F : FD) (n : Nat) (wr : WA) : WE := fun ρ Φ => match nth ρ i with | .m => (wr ρ fun xs => xs.length + 1 = n ∧ F xs Φ) | _ => False
theorem perm_id {α : Type} (xs : List α) (n : Nat) (h : xs.length = n) : perm (List.range n) xs = xs := by
  subst h
  unfold perm
  induction xs with
  | nil => rfl
  | cons x xs ih =>
    rw [List.length_cons, List.range_succ_eq_map, List.filterMap_cons_some (f := fun i => (x :: xs)[i]?) (b := x) rfl, List.filterMap_map]
    exact congrArg (x :: ·) ih
theorem de_callR {RR : Addr → Addr → Res} {b c : Addr} {y : Str} {py : Pos} (i : Nat) (C : Cal X.prog X.w G.W.K X.mg X.base k x st ps (spR G.W RR ps.length F)) (hR : G.R = RR b c) (hK : X.K = G.W.K) (hr : Rg j X.A) (hb : KbS x st ps [] ps.length (List.range ps.length)) (hkj : k ≤ j) (hg : Gl X x)
    (ha : PA X es (upA G s wr)) (hN : X.N[i]? = some y := by rfl) (hv : Vis X.env.scope y := by first | exact Or.inl rfl | exact Or.inr (Or.inl rfl) | exact Or.inr (Or.inr rfl)) (hd : (y == ("__debug__" : Str)) = false := by decide) (hcd : (y == ("__classdict__" : Str)) = false := by decide)
    (hdb : (x == ("__debug__" : Str)) = false := by decide) (he : starEach (.Name y py :: es) X.env = (false, eval (.Name y py) X.env) :: starEach es X.env := by rfl) (hpl : (backTo pos (starEach es X.env)).any (·.1) = false := by rfl) :
    PE X (.Call (.Name x p) (.Name y py :: es) [] pos) (up G s (wGR i F ps.length wr)) := by
  obtain ⟨f, fd, Fn, hm, Fg⟩ := C.ex
  rw [← hK] at Fn Fg
  refine pe_weak (pe_callGP (E := fun _ _ _ => False) Fg (hr.mono hkj) (Kb.of Fn hb) pass0 hg hm Fn.kp (pa_cons (pe_var hN hv hd hcd) ha he) hdb he hpl) fun σ H Q ⟨an, O, ρ, Φ, S, h, q⟩ => ?_
  have en := S.en i
  unfold wGR at h
  cases hx : nth ρ i with
  | m =>
    rw [hx] at en h
    refine ⟨.ref G.R.b, en, an, O, ρ, _, S, h, fun vs H1 ds h1 im k1 i1 => ?_⟩
    have S1 := S.keep k1 i1
    obtain ⟨l1, hF⟩ := h1
    have lv : (V.ref G.R.b :: vs).length = ps.length := by rw [List.length_cons, ImA.length im]; exact l1
    refine ⟨lv, rfl, ?_⟩
    rw [List.append_nil, perm_id _ _ lv]
    refine ⟨b, c, Nn G O s, ds, vs, Φ, by rw [hR], lv, by rw [← hR]; exact i1, fun a z => nn_a (S.ra a (by rw [hR]; exact z)), fun a z => S1.there (nn_v z), im, hF, fun v H2 d hd m2 k2 i2 => ?_⟩
    rw [← hR] at k2 i2
    exact q v H2 d hd m2 (k1.trans k2) i2
  | _ => rw [hx] at h; exact h.elim
end
end DL

namespace DL
open PySem PySem.Spec PyProof.Rows L2
open AutoSeq1 (wpAny_loadPart')

theorem enum_newT (a : Addr) (o : Obj) (items : Array Value) (n : Nat) (hc : o.cls = .type "tuple") (hd : o.data = .seq items n) :
    Meets (Builtin.«enumerate.__new__» ⟨[.type "enumerate", .ref a], []⟩) (fun _ R s => s.heap.get? a = some o ∧
      R (.ok (.ret (.ref (s.heap.push { cls := .type "tuple_iterator", data := .fields #[.ref a, .int 0 0] }).objs.size)))
        { s with heap := (s.heap.push { cls := .type "tuple_iterator", data := .fields #[.ref a, .int 0 0] }).push { cls := .type "enumerate", data := .fields #[.none, .bool false, .ref s.heap.objs.size, rawInt 0, .none, .none] } }) := by
  obtain ⟨cls, dct, data, sl⟩ := o
  subst hc hd
  refine .of_wp fun prog w A R s h => ?_
  obtain ⟨hp, g, d, tk, os⟩ := s
  obtain ⟨hl, h⟩ := h
  have sub0 := sub_enumerate
  have hT : Heap.IsTuple (Shared.heap ⟨hp, g, d, tk, os⟩) a items := ⟨_, hl, rfl, n, rfl⟩
  wp_walk using wpAny_loadPart' hl
  refine wpAny_stack_any fun st => wpAny_pure ?_
  split
  · rename_i c _ _ _ _ _
    cases (c == Value.type "enumerate") <;>
    · wp_walk using wpAny_loadPart' hl, wpAny_pyIter_tuple hT
      exact ⟨_, rfl, h⟩
  · wp_walk using wpAny_loadPart' hl, wpAny_pyIter_tuple hT
    exact ⟨_, rfl, h⟩

theorem call_enumT {prog : Program} {w : World} {A : Around} {E : Value → Shared → Prop} {s : Shared} {a : Addr} {items : Array Value} {Q : Value → Shared → Prop} (hT : IsTup s.heap a items)
    (h : ∀ h2, IsEnum h2 (s.heap.objs.size + 1) s.heap.objs.size 0 .none → h2.IsTupleIter s.heap.objs.size a 0 → h2.objs.size = s.heap.objs.size + 2 →
      (∀ b o, s.heap.get? b = some o → h2.get? b = some o) → Q (.ref (s.heap.objs.size + 1)) { s with heap := h2 }) : wpAny (model prog w) A (call (.type "enumerate") [.ref a]) Q E s := by
  obtain ⟨o, hl, hc, n, hd⟩ := hT
  refine callType_new F.called_enumerate (by decide) (F.typeCall_enumerate_1 _) (F.newCall_enumerate_1 _) (fun obj => F.args_object_init_2 obj _) F.entry_enumerate_new (enum_newT a o items n hc hd) ⟨hl, ?_⟩
  generalize hI : ({ cls := .type "tuple_iterator", data := .fields #[.ref a, .int 0 0] } : Obj) = oI
  have fI : oI.isFreed = false := by rw [← hI]; rfl
  generalize hG : ({ cls := .type "enumerate", data := .fields #[.none, .bool false, .ref s.heap.objs.size, rawInt 0, .none, .none] } : Obj) = oE
  have fE : oE.isFreed = false := by rw [← hG]; rfl
  have z1 : (s.heap.push oI).objs.size = s.heap.objs.size + 1 := Heap.size_push ..
  have gE : ((s.heap.push oI).push oE).get? (s.heap.objs.size + 1) = some oE := by
    rw [← z1]
    exact Heap.get?_push_size _ fE
  have gI : ((s.heap.push oI).push oE).get? s.heap.objs.size = some oI := Heap.get?_push_of_some _ (Heap.get?_push_size _ fI)
  show _ ∧ _
  rw [z1]
  subst hG
  exact ⟨⟨_, gE, rfl⟩, h _ gE ⟨oI, gI, by rw [← hI], by rw [← hI]; rfl⟩ (by rw [Heap.size_push, z1]) fun b u y => Heap.get?_push_of_some _ (Heap.get?_push_of_some _ y)⟩
theorem enum_stop {prog : Program} {w : World} {A : Around} {E : Value → Shared → Prop} {s : Shared} {e it a : Addr} {i : Nat} {items : Array Value} {c : Int} {old : Value} {Q : Option Value → Shared → Prop} (hh : A.handled = none) (ha : a ≠ it)
    (he : IsEnum s.heap e it c old) (hit : s.heap.IsTupleIter it a i) (hT : s.heap.IsTuple a items) (hi : items.size ≤ i) (hQ : ∀ h2, Heap.ExtBut it s.heap h2 → Q none { s with heap := h2 }) : wpAny (model prog w) A (pyNext (.ref e)) Q E s := by
  have ty : s.TypeIs (.ref e) "enumerate" := ⟨_, he, rfl⟩
  unfold pyNext
  refine wpAny_bind (wpAny_attempt (wpAny_callSpecial?_slot (name := Str.ofString "__next__") ty F.slot_enumerate_next (wpAny_call_entry F.slot_enumerate_next ty F.entry_enumerate_next ?_ (F.args_enumerate_next_1 _))))
  show wpAny _ _ (field (.ref e) 2 >>= _) _ _ _
  refine wpAny_bind (wpAny_field he rfl (x := .ref it) rfl (wpAny_bind ?_))
  refine wpAny_nextOf_tuple_end (A := A.in1) (by exact hh) hit hT (by rw [Array.getElem?_eq_none_iff]; exact hi) fun h2 x hb hx => ?_
  obtain ⟨o, ho, hc⟩ := hx
  exact wpAny_bind (wpAny_isInstance (T := "StopIteration") (b := true) ⟨o, ho, hc⟩ isSubtype_stop (wpAny_pure (hQ _ hb)))
/-- the tuple at a, each item in a new pair -/
def IteT (K : PySem.W.Frag) (a : Addr) : It where
  go := fun i H => ∃ (xs : List V) (x : V), SqT K H a xs ∧ xs[i]? = some x
  yld := fun i H v H' => ∃ T x, v = .ref T ∧ H T = none ∧ H' = upd H T (.tup [.int (i : Nat), x]) ∧ ∀ xs, SqT K H a xs → xs[i]? = some x
  stop := fun i H => ∃ xs : List V, SqT K H a xs ∧ xs.length ≤ i
theorem turn_enumT {P : Program} {w : World} {K : PySem.W.Frag} {elts : List Expr} {kk : Nat} {tpos : Pos} (a e it : Addr) :
    Turn P w K (.Tuple elts kk tpos) (IteT K a) [e, it] e (fun i h => (∃ old, IsEnum h e it ((i : Nat) : Int) old) ∧ h.IsTupleIter it a i ∧ e ≠ it) where
  mem := List.mem_cons_self
  obj := fun i h st b hb => by
    obtain ⟨⟨old, he⟩, ⟨o, ho, hc, hd⟩, _⟩ := st
    rcases List.mem_cons.mp hb with rfl | hb
    · exact ⟨_, he, fun v q => nomatch q⟩
    · obtain rfl := List.mem_singleton.mp hb
      exact ⟨o, ho, fun v q => by rw [hd] at q; cases q⟩
  keep := fun i h h2 st k => by
    obtain ⟨⟨old, he⟩, hi, hne⟩ := st
    exact ⟨⟨old, k e List.mem_cons_self _ he⟩, hi.at fun o q => k it (List.mem_cons_of_mem _ List.mem_cons_self) o q, hne⟩
  item := by
    intro X hP hw hK hc i pins s σ H E I hf st hg
    subst hP hw hK
    obtain ⟨⟨old, he⟩, hit, hne⟩ := st
    obtain ⟨xs, x, hq, hx⟩ := hg
    obtain ⟨its, rv, p, hz⟩ := I.tuple hq
    obtain ⟨u, hu, ru⟩ := rv.get hx
    have a1 : a ≠ e := fun z => by
      obtain ⟨o, ho, hcl, _⟩ := p
      rw [z, he] at ho
      cases ho
      exact absurd hcl (by show Value.type "enumerate" ≠ _; decide +kernel)
    have a2 : a ≠ it := fun z => by
      obtain ⟨o, ho, hcl, _⟩ := p
      obtain ⟨o2, ho2, hcl2, _⟩ := hit
      rw [z, ho2] at ho
      cases ho
      rw [hcl] at hcl2
      exact absurd hcl2 (by decide +kernel)
    have lte : e < s.heap.objs.size := Heap.lt_size he
    have lti : it < s.heap.objs.size := by obtain ⟨_, q, _⟩ := hit; exact Heap.lt_size q
    have li : i < its.toArray.size := by
      rw [List.size_toArray]
      exact (List.getElem?_eq_some_iff.mp hu).1
    refine wpAny_pyNext_enum_itemD (Draws.tuple (A := X.A.in1) (I.ok.hd hc) it a a2 its.toArray) he ⟨hit, p⟩ li hne (fun z => by simp [hne, Ne.symm a1] at z) fun y h1 tk hy ho hst hT hsz hk => ?_
    obtain rfl : y = u := by
      rw [List.getElem?_toArray, hu] at hy
      exact (Option.some.inj hy).symm
    refine ⟨_, rfl, wpAny_letOwnedTupleGo_enum (s := { s with heap := h1, toks := tk + 1 }) ho fun h3 he3 sb => ?_⟩
    have hT2 := (sb.2 _ (Nat.ne_of_gt lte)).trans hT
    have nu : ObjOk X.prog X.w (upd H s.heap.objs.size (.tup [.int (i : Nat), x])) h3 s.heap.objs.size (.tup [.int (i : Nat), x]) :=
      ⟨by show 2 ≤ sizeLine; decide, [.int i tk, y], .cons ⟨_, rfl⟩ (.cons ru .nil), ⟨_, hT2, rfl, _, rfl⟩⟩
    have I1 : Inv X pins σ (upd H s.heap.objs.size (.tup [.int (i : Nat), x])) { s with heap := h3, toks := tk + 1 } :=
      I.turnedNew (ch := [e, it]) (fun b ob hb q => (sb.2 b (fun z => hb (by rw [z]; exact List.mem_cons_self))).trans (hk b ob (fun z => hb (by rw [z]; exact List.mem_cons_self)) (fun z => hb (by rw [z]; exact List.mem_cons_of_mem _ List.mem_cons_self)) q)) hf (Nat.le_refl _) nu
    refine ⟨.ref s.heap.objs.size, _, I1, rfl, ⟨_, x, rfl, I.hok.fresh (Nat.le_refl _), rfl, fun ys hy => by rw [I.tuple_inj hy hq]; exact hx⟩, ⟨⟨y, ?_⟩, hst.1.at fun o q => (sb.2 it (Ne.symm hne)).trans q, hne⟩, fun b hb => ?_⟩
    · rw [show ((i + 1 : Nat) : Int) = (i : Int) + 1 by omega]
      exact he3
    · have lb : b < s.heap.objs.size := by
        rcases List.mem_cons.mp hb with rfl | hb
        · exact lte
        · rw [List.mem_singleton.mp hb]; exact lti
      rw [upd_ne (Nat.ne_of_lt lb)]
      exact (hf b hb).1
  done := by
    intro X hP hw hK hc i pins s σ H E I hf st hg
    subst hP hw hK
    obtain ⟨⟨old, he⟩, hit, hne⟩ := st
    obtain ⟨xs, hq, hx⟩ := hg
    obtain ⟨its, rv, p, hz⟩ := I.tuple hq
    obtain ⟨f0, f1, f2, f3, f4, f5⟩ := hf it (List.mem_cons_of_mem _ List.mem_cons_self)
    have a2 : a ≠ it := fun z => by
      obtain ⟨o, ho, hcl, _⟩ := p
      obtain ⟨o2, ho2, hcl2, _⟩ := hit
      rw [z, ho2] at ho
      cases ho
      rw [hcl] at hcl2
      exact absurd hcl2 (by decide +kernel)
    have hl := rv.length
    refine enum_stop (I.ok.hd hc) a2 he hit p (by rw [List.size_toArray]; omega) fun h2 eb => ⟨rfl, I.turned (t' := s.toks) (fun b o hb q => eb b o hb q) f0 f1 f3 f4 f5⟩
  self := fun A i s Q E st h => let ⟨⟨_, he⟩, _⟩ := st; wpAny_pyIter_enum he h
def iEnumT (K : PySem.W.Frag) (ta : TA) : TI := fun σ H R => ta σ H fun vs H1 => ∃ a, vs = [.ref a] ∧ ((∃ xs, SqL K H1 a xs ∧ R (Ite K a) H1) ∨ ∃ xs, SqT K H1 a xs ∧ R (IteT K a) H1)
theorem pi_enumT {X : Cx} {e : Expr} {ta : TA} {p pos tpos : Pos} {elts : List Expr} {kk : Nat} (hg : Gl X "enumerate") (hm : X.mg "enumerate" = none) (ha : PA X [e] ta) (hs : starEach [e] X.env = [(false, eval e X.env)] := by rfl) :
    PI X (.Tuple elts kk tpos) (.Call (.Name "enumerate" p) [e] [] pos) (iEnumT X.K ta) := ⟨fun pins s σ H R I h => by
  refine Call_ (ld_blt I hg hm boot_enumerate (PyProof.Rows.callWith_type1 (thn (ha.run pos pins s σ H _ I h) fun us s1 ⟨vs, H1, I1, r1, a, ex, q1⟩ => ?_) hs rfl))
  subst ex
  cases r1 with
  | cons r rr =>
    cases rr
    cases r
    have fresh : ∀ b ∈ [s1.heap.objs.size + 1, s1.heap.objs.size], s1.heap.objs.size ≤ b := fun b hb => by
      rcases List.mem_cons.mp hb with rfl | hb
      · omega
      · rw [List.mem_singleton.mp hb]; omega
    rcases q1 with ⟨xs, hq, q⟩ | ⟨xs, hq, q⟩
    · obtain ⟨its, rv, p', hz⟩ := I1.list hq
      refine call_enumerate_list p'.isList fun h2 he hit hsz hk => wpAny_pyIter_enum he ?_
      exact ⟨_, _, _, _, H1, rfl, I1.kept (t' := s1.toks) hk, turn_enum a _ s1.heap.objs.size, ⟨⟨.none, he⟩, hit, Nat.succ_ne_self _⟩, fun b hb => I1.fpOk (fresh b hb) (I1.hok.fresh (fresh b hb)), q⟩
    · obtain ⟨its, rv, p', hz⟩ := I1.tuple hq
      refine call_enumT p' fun h2 he hit hsz hk => wpAny_pyIter_enum he ?_
      exact ⟨_, _, _, _, H1, rfl, I1.kept (t' := s1.toks) hk, turn_enumT a _ s1.heap.objs.size, ⟨⟨.none, he⟩, hit, Nat.succ_ne_self _⟩, fun b hb => I1.fpOk (fresh b hb) (I1.hok.fresh (fresh b hb)), q⟩⟩
end DL

namespace DL
open PySem PySem.Spec PyProof.Rows L2

section
variable {X : Cx} {G : Gx} {pos spos : Pos} {s s1 s2 s3 : Bool} {e e2 a b c tg elt iter : Expr} {es ifs : List Expr} {we wa wb wc wk : WE} {wr : WA} {wi : WI} {g : WG} {wt : WT} {is : List Nat} {scope : Scope} {own : List (Str × Nat)}
/-- what holds in every block of the comprehension -/
abbrev InBlk (X : Cx) (scope : Scope) (R : Cx → Prop) : Prop := ∀ (sh : Shared) (H : Hp) (C : Addr) (cl : List (Str × Addr)) (fp : List Addr), R (X.blk sh H scope (compEnvC scope cl C X.env) fp)
theorem df_lc (hc : X.calm = true) (hN : X.N.Nodup) (hi : PI X tg iter (upI G true wi)) (ok : BlkOk X.N X.env.scope scope own) (hg : InBlk X scope fun Y => PG Y tg (upG G is g)) (ht : InBlk X scope fun Y => PTs Y ifs (upT G wt))
    (he : InBlk X scope fun Y => PE Y elt (up G true we)) (hv : ∀ i ∈ is, i ∈ own.map (·.2) := by decide) (hs : ∀ x, foldedSetIterable iter X.env x = pure x := by intro _; rfl) :
    PE X (.ListComp elt [⟨tg, iter, ifs, 0⟩] scope pos) (upF G (wLc wi g wt we (own.map (·.2)))) := pe_weak (pe_lc hc hN hi ok hg ht he hs) (up_lc hv)
theorem de_lc (hc : X.calm = true) (hN : X.N.Nodup) (hi : PI X tg iter (upI G true wi)) (ok : BlkOk X.N X.env.scope scope own) (hg : InBlk X scope fun Y => PG Y tg (upG G is g)) (ht : InBlk X scope fun Y => PTs Y ifs (upT G wt))
    (he : InBlk X scope fun Y => PE Y elt (up G true we)) (hv : ∀ i ∈ is, i ∈ own.map (·.2) := by decide) (hs : ∀ x, foldedSetIterable iter X.env x = pure x := by intro _; rfl) :
    PE X (.ListComp elt [⟨tg, iter, ifs, 0⟩] scope pos) (up G true (wFv (wLc wi g wt we (own.map (·.2))))) := de_fv (df_lc hc hN hi ok hg ht he hv hs)
theorem ds_lcD (i : Nat) {y : Str} {py : Pos} (hc : X.calm = true) (hN : X.N.Nodup) (hsw : swapsWith (.ListComp elt [⟨tg, iter, ifs, 0⟩] scope pos) (some (.Name y py)) spos.line X.env = pure true) (hi : PI X tg iter (upI G true wi)) (ok : BlkOk X.N X.env.scope scope own)
    (hg : InBlk X scope fun Y => PG Y tg (upG G is g)) (ht : InBlk X scope fun Y => PTs Y ifs (upT G wt)) (he : InBlk X scope fun Y => PE Y elt (up G true we)) (hy : X.N[i]? = some y := by rfl) (hyl : X.env.scope.names.lookup y = some .local := by rfl)
    (hv : ∀ i ∈ is, i ∈ own.map (·.2) := by decide) (hs : ∀ x, foldedSetIterable iter X.env x = pure x := by intro _; rfl) :
    PS X (.Assign [.Name y py] (.ListComp elt [⟨tg, iter, ifs, 0⟩] scope pos) spos) (upS G (wSet i (wFv (wLc wi g wt we (own.map (·.2)))))) :=
  ps_weak (ps_setLc hc hN hy hyl hsw hi ok hg ht he hs) (up_set fun σ H Q h => up_lc hv σ H Q (up_fv σ H Q h))
theorem ds_lcO (i : Nat) {y : Str} {py : Pos} (hc : X.calm = true) (hN : X.N.Nodup) (hsw : swapsWith (.ListComp elt [⟨tg, iter, ifs, 0⟩] scope pos) (some (.Name y py)) spos.line X.env = pure true) (hi : PI X tg iter (upI G true wi)) (ok : BlkOk X.N X.env.scope scope own)
    (hg : InBlk X scope fun Y => PG Y tg (upG G is g)) (ht : InBlk X scope fun Y => PTs Y ifs (upT G wt)) (he : InBlk X scope fun Y => PE Y elt (up G true we)) (hy : X.N[i]? = some y := by rfl) (hyl : X.env.scope.names.lookup y = some .local := by rfl)
    (hv : ∀ i ∈ is, i ∈ own.map (·.2) := by decide) (hs : ∀ x, foldedSetIterable iter X.env x = pure x := by intro _; rfl) :
    PS X (.Assign [.Name y py] (.ListComp elt [⟨tg, iter, ifs, 0⟩] scope pos) spos) (upS G (wFst i (wLc wi g wt we (own.map (·.2))))) :=
  ps_weak (ps_setLc hc hN hy hyl hsw hi ok hg ht he hs) (up_fst (up_lc hv))
def wSetI (i : Nat) (we wk : WE) : WS := fun W ρ => match nth ρ i with
  | .o ds => (we ρ fun d => wk ρ fun kd => match kd with | .int j => (∃ n, ixN ds.length j = some n ∧ W.nx (put ρ i (.o (ds.set n d)))) | _ => False)
  | _ => False
theorem ds_setI (i : Nat) {x : Str} {p1 p2 : Pos} (he : PE X e (up G true we)) (hk : PE X b (up G s2 wk)) (hN : X.N[i]? = some x := by rfl) (hv : Vis X.env.scope x := by first | exact Or.inl rfl | exact Or.inr (Or.inl rfl) | exact Or.inr (Or.inr rfl))
    (hd : (x == ("__debug__" : Str)) = false := by decide) (hcd : (x == ("__classdict__" : Str)) = false := by decide)
    (ha : ∀ v, assign (.Subscript (.Name x p1) b p2) X.env v = (do
      let ov ← holding [v] (eval (.Name x p1) X.env)
      let iv ← holding [v, ov] (eval b X.env)
      standAt p2
      holding [v, ov, iv] (setItem ov iv v)
      release [v, ov, iv] []) := by intro _; rfl)
    (hs : swapsWithSole [.Subscript (.Name x p1) b p2] e pos.line X.env = pure false := by rfl) (hw : swappedStores [.Subscript (.Name x p1) b p2] e X.env = pure none := by rfl) (h1 : (assignEach [.Subscript (.Name x p1) b p2] X.env).map (·.2) = [assign (.Subscript (.Name x p1) b p2) X.env] := by rfl) :
    PS X (.Assign [.Subscript (.Name x p1) b p2] e pos) (upS G (wSetI i we wk)) :=
  ps_weak (ps_asg he (pg_sub (pe_var hN hv hd hcd) hk set_list ha) hs hw h1) fun D σ H ⟨an, O, ρ, W, S, h, q1, q2, q3, q4⟩ => by
    obtain ⟨ds, p, vs, hx, e1, e2, e3, m, h⟩ := own_slot S h
    refine ⟨an, O, ρ, _, S, h, fun v H1 d hd1 im k1 i1 => ?_⟩
    have S1 := (S.keep k1 i1).ana (src := [(d, v)]) fun p hp => by rw [List.mem_singleton.mp hp]; exact im
    have m1 := ImA.keep (S.ka (s := true) k1) _ _ m
    have e3 := k1.ob p _ e3 (S.nM e2)
    refine ⟨.ref p, e1, _, O, ρ, _, S1, hd1, fun kv H2 kd hk2 im2 k2 i2 => ?_⟩
    have S2 := S1.keep k2 i2
    have m2 := ImA.keep (S1.ka (s := true) k2) _ _ m1
    have e3 := k2.ob p _ e3 (S1.nM e2)
    cases kd with
    | int j =>
      obtain ⟨n, hn, hq⟩ := hk2
      refine ⟨p, vs, j, n, rfl, im2, e3, by rw [ImA.length m]; exact hn, ?_⟩
      have imv := S2.as (d, v) (List.mem_append_left _ List.mem_cons_self)
      exact q1 _ _ _ _ ((S2.chg hx e2 e1 e3 (ImA.set n m2 imv)).anm fun p hp => List.mem_append_right _ hp) hq
    | _ => exact hk2.elim
def attrD : List (PyData × PyData) → Str → Option PyData
  | [], _ => none
  | (.str x, d) :: r, f => if f = x then some d else attrD r f
  | _ :: r, f => attrD r f
theorem ImF.look {W : Wd} {N : Addr → Prop} {H : Hp} {f : Str} {z : PyData} : ∀ {kvs : List (PyData × PyData)} {fs : List (Str × V)}, ImF W N H kvs fs → attrD kvs f = some z → ∃ v, fs.lookup f = some v ∧ Im W N H z v
  | [], _, _, h => by cases h
  | (k, d) :: ks, _, q, h => by
    obtain ⟨x, v, r, rfl, rfl, q1, q2⟩ := q
    have h : (if f = x then some d else attrD ks f) = some z := h
    by_cases e : f = x
    · subst e
      rw [if_pos rfl] at h
      cases h
      exact ⟨v, by rw [List.lookup_cons]; simp, q1⟩
    · rw [if_neg e] at h
      obtain ⟨w, h1, h2⟩ := ImF.look q2 h
      refine ⟨w, ?_, h2⟩
      rw [List.lookup_cons, show (f == x) = false from by simpa using e]
      exact h1
def namesOf : List (PyData × PyData) → List Str
  | [] => []
  | (.str x, _) :: r => x :: namesOf r
  | _ :: r => namesOf r
theorem ImF.names {W : Wd} {N : Addr → Prop} {H : Hp} : ∀ {kvs : List (PyData × PyData)} {fs : List (Str × V)}, ImF W N H kvs fs → fs.map (·.1) = namesOf kvs
  | [], _, q => by cases q; rfl
  | (k, d) :: ks, _, q => by
    obtain ⟨x, v, r, rfl, rfl, q1, q2⟩ := q
    show x :: r.map (·.1) = x :: namesOf ks
    rw [ImF.names q2]
/-- an attribute of an object whose attributes are ks -/
def wFld (ks : List Str) (f : Str) (we : WE) : WE := fun ρ Φ => we ρ fun d => match d with | .dict kvs => (namesOf kvs = ks ∧ ∃ z, attrD kvs f = some z ∧ Φ z) | _ => False
theorem de_fld {ks : List Str} {f : Str} (hK : X.K = G.W.K) (hc : Cls X.K (G.W.kc ks)) (hn : NoAttr X.K (G.W.kc ks) f) (h : PE X e (up G s we)) (hb : attributeBase e f X.env (eval e X.env) = eval e X.env := by rfl) : PE X (.Attribute e f pos) (up G s (wFld ks f we)) :=
  pe_weak (pe_fld h hb) fun σ H Q ⟨an, O, ρ, Φ, S, h, q⟩ => by
    refine ⟨an, O, ρ, _, S, h, fun v H1 d h1 im k1 i1 => ?_⟩
    cases d with
    | dict kvs =>
      obtain ⟨hks, z, hz, h1⟩ := h1
      rcases im with ⟨a, rfl, n, hh⟩ | ⟨_, _, _, _, _, _, _, zm⟩
      rotate_left
      · exact absurd hz (by
          match kvs, zm with
          | [(_, _)], ⟨rfl, rfl, _⟩ => exact fun z => nomatch z)
      rcases hh with ⟨rfl, _⟩ | ⟨_, dx, fs, ha, m⟩
      · cases hz
      obtain ⟨v, hl, mz⟩ := ImF.look m hz
      have en : fs.map (·.1) = ks := (ImF.names m).trans hks
      rw [en] at ha
      exact ⟨a, _, dx, fs, v, rfl, ha, hc, hn, hl, q v H1 z h1 mz k1 i1⟩
    | _ => exact h1.elim
def pairD (x y : PyData) : PyData := .tuple [x, y]
def zipD : List PyData → List PyData → List PyData
  | x :: xs, y :: ys => pairD x y :: zipD xs ys
  | _, _ => []
theorem zipD_get : ∀ {xs ys : List PyData} {i : Nat} {x y : PyData}, xs[i]? = some x → ys[i]? = some y → (zipD xs ys)[i]? = some (pairD x y)
  | [], _, _, _, _, h, _ => by simp at h
  | _ :: _, [], _, _, _, _, h => by simp at h
  | x :: xs, y :: ys, 0, _, _, h1, h2 => by
    simp only [List.getElem?_cons_zero, Option.some.injEq] at h1 h2
    subst h1 h2
    rfl
  | x :: xs, y :: ys, i + 1, _, _, h1, h2 => zipD_get (i := i) (xs := xs) (ys := ys) (by simpa using h1) (by simpa using h2)
theorem zipD_len : ∀ {xs ys : List PyData}, (zipD xs ys).length = min xs.length ys.length
  | [], _ => by simp [zipD]
  | _ :: _, [] => by simp [zipD]
  | x :: xs, y :: ys => by
    show (zipD xs ys).length + 1 = _
    rw [zipD_len, List.length_cons, List.length_cons]
    omega
theorem im_pair {W : Wd} {N : Addr → Prop} {H : Hp} {T : Addr} {x y : V} {d e : PyData} (hT : H T = none) (m1 : Im W N H d x) (m2 : Im W N H e y) : Im W N (upd H T (.tup [x, y])) (pairD d e) (.ref T) :=
  ⟨T, [x, y], rfl, .inl (.inl upd_same), x, [y], rfl, Im.keep (Keep.new hT) _ _ m1, y, [], rfl, Im.keep (Keep.new hT) _ _ m2, rfl⟩
theorem seq_at {W : Wd} {N : Addr → Prop} {H : Hp} {ds : List PyData} {xs : List V} {i : Nat} (m : ImA W N H ds xs) (hi : i < ds.length) : ∃ x, xs[i]? = some x ∧ Im W N H ds[i] x := ImA.get m (List.getElem?_eq_getElem hi)
theorem src_zipT {W : Wd} {as bs : List PyData} {a b : Addr} : SrcV W (RZ.ItzT W.K a b) (zipD as bs) [(.tuple as, .ref a), (.tuple bs, .ref b)] := fun N H i hp => by
  obtain ⟨p, xs, e1, r, m⟩ := hp _ List.mem_cons_self
  cases e1
  obtain ⟨p, ys, e1, r2, m2⟩ := hp _ (List.mem_cons_of_mem _ List.mem_cons_self)
  cases e1
  have l1 := ImA.length m
  have l2 := ImA.length m2
  rw [zipD_len]
  refine ⟨fun hi => ?_, fun hi => ⟨xs, ys, r, r2, by omega⟩⟩
  obtain ⟨x, hx, ix⟩ := seq_at m (i := i) (by omega)
  obtain ⟨y, hy, iy⟩ := seq_at m2 (i := i) (by omega)
  refine ⟨⟨xs, ys, x, y, r, r2, hx, hy⟩, fun v H2 z => ?_⟩
  obtain ⟨T, x', y', rfl, hT, rfl, f1, f2⟩ := z
  cases (f1 xs r).symm.trans hx
  cases (f2 ys r2).symm.trans hy
  refine ⟨Keep.new hT, fun d hd => ?_⟩
  rw [zipD_get (List.getElem?_eq_getElem (by omega)) (List.getElem?_eq_getElem (by omega))] at hd
  cases hd
  exact im_pair hT ix iy
theorem src_zipL {W : Wd} {as bs : List PyData} {a b : Addr} : SrcV W (Itz W.K a b) (zipD as bs) [(.list as, .ref a), (.list bs, .ref b)] := fun N H i hp => by
  obtain ⟨p, xs, e1, r, _, m⟩ := hp _ List.mem_cons_self
  cases e1
  obtain ⟨p, ys, e1, r2, _, m2⟩ := hp _ (List.mem_cons_of_mem _ List.mem_cons_self)
  cases e1
  have l1 := ImA.length m
  have l2 := ImA.length m2
  have r : SqL W.K H a xs := .inl (.inl r)
  have r2 : SqL W.K H b ys := .inl (.inl r2)
  rw [zipD_len]
  refine ⟨fun hi => ?_, fun hi => ⟨xs, ys, r, r2, by omega⟩⟩
  obtain ⟨x, hx, ix⟩ := seq_at m (i := i) (by omega)
  obtain ⟨y, hy, iy⟩ := seq_at m2 (i := i) (by omega)
  refine ⟨⟨xs, ys, x, y, r, r2, hx, hy⟩, fun v H2 z => ?_⟩
  obtain ⟨T, x', y', rfl, hT, rfl, f1, f2⟩ := z
  cases (f1 xs r).symm.trans hx
  cases (f2 ys r2).symm.trans hy
  refine ⟨Keep.new hT, fun d hd => ?_⟩
  rw [zipD_get (List.getElem?_eq_getElem (by omega)) (List.getElem?_eq_getElem (by omega))] at hd
  cases hd
  exact im_pair hT ix iy
def wZip (wr : WA) : WI := fun ρ Φ => wr ρ fun ds => match ds with | [.tuple as, .tuple bs] => Φ (zipD as bs) | [.list as, .list bs] => Φ (zipD as bs) | _ => False
theorem di_zip {p tpos : Pos} {elts : List Expr} {kk : Nat} (hK : X.K = G.W.K) (hg : Gl X "zip") (hm : X.mg "zip" = none) (ha : PA X [e, e2] (upA G s wr)) (hs : starEach [e, e2] X.env = (false, eval e X.env) :: starEach [e2] X.env := by rfl) (hpl : (backTo pos (starEach [e2] X.env)).any (·.1) = false := by rfl) :
    PI X (.Tuple elts kk tpos) (.Call (.Name "zip" p) [e, e2] [] pos) (upI G s (wZip wr)) := pi_weak (RZ.pi_zipA hg hm ha hs hpl) fun σ H R ⟨an, O, ρ, Φ, S, hw, q⟩ => by
  refine ⟨an, O, ρ, _, S, hw, fun vs H1 ds h1 im k1 i1 => ?_⟩
  rw [hK]
  split at h1
  · obtain ⟨v, v', rfl, m1, m2⟩ := im2 im
    obtain ⟨a, xs, rfl, r, m⟩ := id m1
    obtain ⟨b, ys, rfl, r2, m'⟩ := id m2
    refine ⟨a, b, xs, ys, rfl, .inr ⟨r, r2, q _ H1 _ _ h1 src_zipT (fun p hp => ?_) k1 i1⟩⟩
    rcases List.mem_cons.mp hp with rfl | hp
    · exact m1
    · rw [List.mem_singleton.mp hp]; exact m2
  · obtain ⟨v, v', rfl, m1, m2⟩ := im2 im
    obtain ⟨a, xs, rfl, r, n1, m⟩ := id m1
    obtain ⟨b, ys, rfl, r2, n2, m'⟩ := id m2
    refine ⟨a, b, xs, ys, rfl, .inl ⟨.inl (.inl r), .inl (.inl r2), q _ H1 _ _ h1 src_zipL (fun p hp => ?_) k1 i1⟩⟩
    rcases List.mem_cons.mp hp with rfl | hp
    · exact m1
    · rw [List.mem_singleton.mp hp]; exact m2
  · exact h1.elim
def enumD (as : List PyData) : List PyData := as.mapIdx fun i x => pairD (.int (i : Nat)) x
theorem enumD_get {as : List PyData} {i : Nat} {e : PyData} (h : (enumD as)[i]? = some e) : ∃ x, as[i]? = some x ∧ e = pairD (.int (i : Nat)) x := by
  unfold enumD at h
  rw [List.getElem?_mapIdx] at h
  cases q : as[i]? with
  | none => rw [q] at h; cases h
  | some x => rw [q] at h; cases h; exact ⟨x, rfl, rfl⟩
theorem src_enumT {W : Wd} {as : List PyData} {a : Addr} : SrcV W (IteT W.K a) (enumD as) [(.tuple as, .ref a)] := fun N H i hp => by
  obtain ⟨p, xs, e1, r, m⟩ := hp _ List.mem_cons_self
  cases e1
  have l1 := ImA.length m
  rw [show (enumD as).length = as.length from List.length_mapIdx]
  refine ⟨fun hi => ?_, fun hi => ⟨xs, r, by omega⟩⟩
  obtain ⟨x, hx, ix⟩ := seq_at m (i := i) (by omega)
  refine ⟨⟨xs, x, r, hx⟩, fun v H2 z => ?_⟩
  obtain ⟨T, x', rfl, hT, rfl, f1⟩ := z
  cases (f1 xs r).symm.trans hx
  refine ⟨Keep.new hT, fun d hd => ?_⟩
  obtain ⟨y, hy, rfl⟩ := enumD_get hd
  rw [List.getElem?_eq_getElem hi] at hy
  cases hy
  exact im_pair hT (d := .int (i : Nat)) rfl ix
theorem src_enumL {W : Wd} {as : List PyData} {a : Addr} : SrcV W (Ite W.K a) (enumD as) [(.list as, .ref a)] := fun N H i hp => by
  obtain ⟨p, xs, e1, r, _, m⟩ := hp _ List.mem_cons_self
  cases e1
  have l1 := ImA.length m
  have r : SqL W.K H a xs := .inl (.inl r)
  rw [show (enumD as).length = as.length from List.length_mapIdx]
  refine ⟨fun hi => ?_, fun hi => ⟨xs, r, by omega⟩⟩
  obtain ⟨x, hx, ix⟩ := seq_at m (i := i) (by omega)
  refine ⟨⟨xs, x, r, hx⟩, fun v H2 z => ?_⟩
  obtain ⟨T, x', rfl, hT, rfl, f1⟩ := z
  cases (f1 xs r).symm.trans hx
  refine ⟨Keep.new hT, fun d hd => ?_⟩
  obtain ⟨y, hy, rfl⟩ := enumD_get hd
  rw [List.getElem?_eq_getElem hi] at hy
  cases hy
  exact im_pair hT (d := .int (i : Nat)) rfl ix
def wEnum (we : WA) : WI := fun ρ Φ => we ρ fun ds => match ds with | [.tuple as] => Φ (enumD as) | [.list as] => Φ (enumD as) | _ => False
theorem di_enum {p tpos : Pos} {elts : List Expr} {kk : Nat} (hK : X.K = G.W.K) (hg : Gl X "enumerate") (hm : X.mg "enumerate" = none) (ha : PA X [e] (upA G s wr)) (hs : starEach [e] X.env = [(false, eval e X.env)] := by rfl) :
    PI X (.Tuple elts kk tpos) (.Call (.Name "enumerate" p) [e] [] pos) (upI G s (wEnum wr)) := pi_weak (pi_enumT hg hm ha hs) fun σ H R ⟨an, O, ρ, Φ, S, hw, q⟩ => by
  refine ⟨an, O, ρ, _, S, hw, fun vs H1 ds h1 im k1 i1 => ?_⟩
  rw [hK]
  split at h1
  · obtain ⟨v, rfl, m1⟩ := im1 im
    obtain ⟨a, xs, rfl, r, m⟩ := id m1
    refine ⟨a, rfl, .inr ⟨xs, r, q _ H1 _ _ h1 src_enumT (fun p hp => ?_) k1 i1⟩⟩
    rw [List.mem_singleton.mp hp]; exact m1
  · obtain ⟨v, rfl, m1⟩ := im1 im
    obtain ⟨a, xs, rfl, r, n1, m⟩ := id m1
    refine ⟨a, rfl, .inl ⟨xs, .inl (.inl r), q _ H1 _ _ h1 src_enumL (fun p hp => ?_) k1 i1⟩⟩
    rw [List.mem_singleton.mp hp]; exact m1
  · exact h1.elim
def signsD (z : Str) : List PyData := z.cps.toList.map fun c => .str ⟨#[c]⟩
theorem src_str {W : Wd} {z : Str} : SrcV W (Its z) (signsD z) [] := fun N H i _ => by
  have l : (signsD z).length = z.cps.size := by unfold signsD; rw [List.length_map, Array.length_toList]
  rw [l]
  refine ⟨fun hi => ⟨hi, fun x H2 y => ?_⟩, fun hi => hi⟩
  obtain ⟨rfl, c, hc, rfl⟩ := y
  refine ⟨Keep.refl _, fun d hd => ?_⟩
  unfold signsD at hd
  rw [List.getElem?_map, Array.getElem?_toList, hc] at hd
  cases hd
  rfl
def wStrI (we : WE) : WI := fun ρ Φ => we ρ fun d => match d with | .str z => Φ (signsD z) | _ => False
theorem di_str (h : PE X e (up G s we)) : PI X tg e (upI G s (wStrI we)) := pi_weak (pi_str h) fun σ H R ⟨an, O, ρ, Φ, S, hw, q⟩ => by
  refine ⟨an, O, ρ, _, S, hw, fun v H1 d h1 im k1 i1 => ?_⟩
  cases d with
  | str z => exact ⟨z, im, q _ H1 _ [] h1 src_str (fun p hp => nomatch hp) k1 i1⟩
  | _ => exact h1.elim
def wChain (f f' : PyData → PyData → (PyData → Prop) → Prop) (wa wb wc : WE) : WE := fun ρ Φ => wa ρ fun x => wb ρ fun y => f x y fun k => match k with | .bool t => (if t = true then wc ρ fun z => f' y z Φ else Φ (.bool false)) | _ => False
theorem up_chain {r r' : R2} {f f' : PyData → PyData → (PyData → Prop) → Prop} (hf : OpD G true s1 s2 r f) (hf' : OpD G s s2 s3 r' f') (σ : L2.St) (H : Hp) (Q : VK) (h : up G s (wChain f f' wa wb wc) σ H Q) : tChain r r' (up G s1 wa) (up G s2 wb) (up G s3 wc) σ H Q := by
  obtain ⟨an, O, ρ, Φ, S, h, q⟩ := h
  refine ⟨an, O, ρ, _, S, h, fun v H1 d h1 m1 k1 i1 => ?_⟩
  have S1 := S.keep k1 i1
  refine ⟨an, O, ρ, _, S1, h1, fun v2 H2 d2 h2 m2 k2 i2 => ?_⟩
  have S2 := S1.keep k2 i2
  refine hf an O σ ρ H2 v v2 d d2 _ _ S2 (S1.im k2 m1) m2 h2 fun w H3 z hz mz k3 i3 => ?_
  have S3 := S2.keep k3 i3
  cases z with
  | bool t =>
    refine ⟨t, mz, ?_⟩
    cases t with
    | false => exact q _ H3 _ hz rfl ((k1.trans k2).trans k3) i3
    | true =>
      refine ⟨an, O, ρ, _, S3, hz, fun v3 H4 d3 h3 m3 k4 i4 => ?_⟩
      have S4 := S3.keep k4 i4
      exact hf' an O σ ρ H4 v2 v3 d2 d3 Φ Q S4 (S3.im k4 (S2.im k3 m2)) m3 h3 fun w H5 z hz mz k5 i5 => q w H5 z hz mz ((((k1.trans k2).trans k3).trans k4).trans k5) i5
  | _ => exact hz.elim
theorem de_chain {op op' : CmpOp} {r r' : R2} {f f' : PyData → PyData → (PyData → Prop) → Prop} (ho : OpR X (compareOp op) r) (ho' : OpR X (compareOp op') r') (hf : OpD G true s1 s2 r f) (hf' : OpD G s s2 s3 r' f')
    (ha : PE X a (up G s1 wa)) (hb : PE X b (up G s2 wb)) (hc : PE X c (up G s3 wc)) (hm : lastMarks [op, op'] [b, c] = false := by with_unfolding_all rfl) : PE X (.Compare a [op, op'] [b, c] pos) (up G s (wChain f f' wa wb wc)) := pe_weak (pe_chain ho ho' ha hb hc hm) (up_chain hf hf')
theorem dt_chain {op op' : CmpOp} {r r' : R2} {f f' : PyData → PyData → (PyData → Prop) → Prop} (ho : OpR X (compareOp op) r) (ho' : OpR X (compareOp op') r') (hf : OpD G true s1 s2 r f) (hf' : OpD G true s2 s3 r' f')
    (ha : PE X a (up G s1 wa)) (hb : PE X b (up G s2 wb)) (hc : PE X c (up G s3 wc)) (hm : lastMarks [op, op'] [b, c] = false := by with_unfolding_all rfl) : PT X (.Compare a [op, op'] [b, c] pos) (upT G (wTest (wChain f f' wa wb wc))) := by
  refine pt_weak (pt_chain ho ho' ha hb hc hm) fun σ H Q h => ?_
  obtain ⟨an, O, ρ, Φ, S, h, q⟩ := up_test (s := true) σ H Q h
  exact up_chain hf hf' σ H _ ⟨an, O, ρ, Φ, S, h, q⟩
end
end DL

namespace DL
open PySem PySem.Spec PyProof.Rows L2

section
variable {P : Program} {w : World} {A : Around} {R : Result → Shared → Prop} {I : Addr} {fp wr : List Addr} {Ge : Array GenState → Array GenState → Prop} {Pv : Nat → Value → Prop} {St : Nat → Shared → Prop}
/-- the first i of ns lie in the set at a -/
def Laid (w : World) (h : Heap) (a : Addr) (ns : List Int) (i : Nat) : Prop := ∃ m, m ≤ i ∧ SetR w h a (fun j => decide (j ∈ ns.take i)) m
theorem Laid.move {h h' : Heap} {a : Addr} {ns : List Int} {i : Nat} (l : Laid w h a ns i) (k : ∀ o, h.get? a = some o → h'.get? a = some o) : Laid w h' a ns i := by
  obtain ⟨m, hm, r⟩ := l
  exact ⟨m, hm, r.at k⟩
theorem Laid.next {h' : Heap} {a : Addr} {ns : List Int} {i m : Nat} (hi : i < ns.length) (hm : m ≤ i) (r : SetR w h' a (fun j => decide (j ∈ ns.take i) || decide (j = ns.getD i 0)) (if decide (ns.getD i 0 ∈ ns.take i) = true then m else m + 1)) : Laid w h' a ns (i + 1) := by
  have e : ns.getD i 0 = ns[i] := by rw [List.getD_eq_getElem?_getD, List.getElem?_eq_getElem hi]; rfl
  refine ⟨_, ?_, r.congr fun j => ?_⟩
  · split <;> omega
  · have tk : ns.take (i + 1) = ns.take i ++ [ns[i]] := List.take_succ_eq_append_getElem hi
    rw [tk, e, Bool.eq_iff_iff]
    simp only [decide_eq_true_eq, Bool.or_eq_true, List.mem_append, List.mem_singleton]
theorem set_fill (ns : List Int) (W : WalksS P w A.in1 I fp wr Ge ns.length Pv St) (a : Addr) (away : a ∉ fp) (isInt : ∀ i v, Pv i v → ∃ t, v = .int (ns.getD i 0) t) (few : ns.length + 1 < scanBound) :
    ∀ (left i : Nat) (s : Shared), ns.length - i = left → i ≤ ns.length → St i s → Laid w s.heap a ns i →
      (∀ s', Moved (a :: wr) Ge s s' → Laid w s'.heap a ns ns.length → R (.ok (.ret .none)) s') → codeAny (model P w) A (.builtin "set.update.loop" ⟨[.ref a, .ref I], []⟩) R s := by
  have awr : a ∉ wr := fun z => away (W.sub _ z)
  have more : ∀ b ∈ wr, b ∈ a :: wr := fun b z => List.mem_cons_of_mem _ z
  intro left
  induction left with
  | zero =>
    intro i s e hi st l fin
    obtain rfl : i = ns.length := by omega
    refine codeAny_builtin F.entry_set_update_loop ?_
    rw [Around.under_plainId F.plain_set_update_loop _]
    refine wpAny_bind (m := pyNext (.ref I)) (W.done s _ _ st fun s2 mv => ?_)
    exact wpAny_pure (fin s2 (mv.mono more) (l.move fun o z => mv.heap a _ awr z))
  | succ left ih =>
    intro i s e hi st l fin
    have lt : i < ns.length := by omega
    refine codeAny_builtin F.entry_set_update_loop ?_
    rw [Around.under_plainId F.plain_set_update_loop _]
    refine wpAny_bind (m := pyNext (.ref I)) (W.item i s _ _ lt st fun v s2 pv st2 mv => ?_)
    obtain ⟨t, rfl⟩ := isInt i v pv
    obtain ⟨m, hm, r⟩ := l.move fun o z => mv.heap a _ awr z
    show wpAny _ A.in1 (holding [Value.int (ns.getD i 0) t] (setAdd a (.int (ns.getD i 0) t)) >>= _) _ _ s2
    refine wpAny_bind (wpAny_holding ?_)
    unfold setAdd
    refine wpAny_holding (wpAny_bind ((intKind P w).pyHash (k := ns.getD i 0) (intKind_is _ _ _ _) ?_))
    refine setR_add_hashed (s := { s2 with toks := s2.toks + 1 }) r (by omega) fun h2 sb r2 => ?_
    refine wpAny_pure ⟨plainId_quiet F.plain_set_update_loop _, ih (i + 1) _ (by omega) lt (W.frame _ s2 _ _ st2 (Nat.le_succ _) fun b hb o z => ?_) (Laid.next lt hm r2) fun s3 mv2 l3 => ?_⟩
    · rw [sb.2 b fun q => away (q ▸ hb)]; exact z
    · refine fin s3 (Moved.trans W.gtrans ((mv.mono more).then_heap (Nat.le_succ _) fun b o hb z => ?_) mv2) l3
      rw [sb.2 b fun q => hb (by rw [q]; exact List.mem_cons_self)]; exact z
end
section
variable {P : Program} {w : World} {A : Around} {E : Value → Shared → Prop} {s : Shared}
theorem set_made (v : Value) {Q : Value → Shared → Prop} (h : Q (.ref s.heap.objs.size) { s with heap := s.heap.push { cls := .type "set", dict := none, data := .set #[] 0 (.fresh 0 0 (!w.params.followText "set-order")) } }) :
    codeAny (model P w) A (.call (.builtin "set.__new__") ⟨[.type "set", v], []⟩) (wants Q E) s := by
  refine codeAny_of_tree ?_
  show wpAny _ A.in1 (do checkBuiltinCall "set.__new__" ⟨[.type "set", v], []⟩; again (.builtin "set.__new__" ⟨[.type "set", v], []⟩)) _ _ s
  refine wpAny_bind (wpAny_of_eq (F.newCall_set_1 v) (wpAny_pure ⟨plainId_quiet F.plain_set_new _, codeAny_builtin F.entry_set_new ?_⟩))
  rw [Around.under_plainId F.plain_set_new _]
  unfold Builtin.«set.__new__» Builtin.Frozenset.newClass
  have sub0 := sub_set_self
  obtain ⟨hp, g, d, tk, os⟩ := s
  dsimp only
  wp_walk
  refine wpAny_askSetting (wpAny_pure ?_)
  dsimp only
  simp only [newObj]
  exact wpAny_bind (wpAny_alloc (wpAny_pure (wpAny_pure h)))
set_option maxHeartbeats 4000000 in
theorem set_of_list {l : Addr} {items : Array Value} {ns : List Int} {Q : Value → Shared → Prop} (hh : A.handled = none) (hl : s.heap.IsList l items) (hi : IntsAre items.toList ns) (few : items.size + 1 < scanBound)
    (h : ∀ (h2 : Heap) (tk : Nat), Laid w h2 s.heap.objs.size ns ns.length → (∀ b o, b < s.heap.objs.size → s.heap.get? b = some o → h2.get? b = some o) → Q (.ref s.heap.objs.size) { s with heap := h2, toks := tk }) :
    wpAny (model P w) A (call (.type "set") [.ref l]) Q E s := by
  have len : items.size = ns.length := by rw [← hi.length, Array.length_toList]
  obtain ⟨c, tl, hmro⟩ := F.called_set.mro
  have hmade := F.called_set.made
  have hsub := F.called_set.sub
  refine wpAny_call (codeAny_of_tree ?_)
  show wpAny _ _ (callAny (.type "set") _) _ _ _
  refine wpAny_pure ⟨Code.quiet_builtin _ (by decide +kernel), codeAny_builtin F.entry_type_call ?_⟩
  rw [Around.under_plain (weight_type_call_type "set" [.ref l] []) rfl]
  have h1 := F.called_set.notType
  have h2 := F.called_set.canCreate
  have hct := F.typeCall_set_1 (.ref l)
  repeat (any_goals (first | assumption | wp_step))
  refine codeAny_mono (set_made (.ref l) (E := E) (Q := fun obj s₁ => obj = .ref s.heap.objs.size ∧ s₁ = { s with heap := s.heap.push { cls := .type "set", dict := none, data := .set #[] 0 (.fresh 0 0 (!w.params.followText "set-order")) } }) ⟨rfl, rfl⟩) fun r s₁ hr => ?_
  rcases r with e | fl
  · exact hr
  cases fl with
  | ret obj =>
    obtain ⟨rfl, rfl⟩ := hr
    have gZ : (s.heap.push { cls := .type "set", dict := none, data := .set #[] 0 (.fresh 0 0 (!w.params.followText "set-order")) }).get? s.heap.objs.size = some { cls := .type "set", dict := none, data := .set #[] 0 (.fresh 0 0 (!w.params.followText "set-order")) } := Heap.get?_push_size _ rfl
    have hT : Shared.TypeIs { s with heap := s.heap.push { cls := .type "set", dict := none, data := .set #[] 0 (.fresh 0 0 (!w.params.followText "set-order")) } } (.ref s.heap.objs.size) "set" := ⟨_, gZ, rfl⟩
    have hli := F.called_set.init.lookup
    have hbi := F.called_set.init.bind (.ref s.heap.objs.size)
    repeat (any_goals (first | assumption | wp_step))
    refine codeAny_mono (codeAny_call_builtin (R := wants (fun r s₂ => r = .none ∧ ∃ h2 tk, s₂ = { s with heap := h2, toks := tk } ∧ Laid w h2 s.heap.objs.size ns ns.length ∧
        ∀ b o, b < s.heap.objs.size → s.heap.get? b = some o → h2.get? b = some o) E) F.called_set.init.plain F.entry_set_init (check_set_init_1 hT ?_)) fun r₂ s₂ hr₂ => ?_
    · obtain ⟨⟨ocls, odict, odata, oslots⟩, hol, hcl, nl, hdl⟩ := hl
      simp only at hcl hdl
      subst hcl hdl
      have hol2 : (s.heap.push { cls := .type "set", dict := none, data := .set #[] 0 (.fresh 0 0 (!w.params.followText "set-order")) }).get? l = some { cls := .type "list", dict := odict, data := .seq items nl, slots := oslots } := Heap.get?_push_of_some _ hol
      have hsls := F.sub_list_set
      have hslf := F.sub_list_frozenset
      have hne : (Value.type "list" == Value.type "dict") = false := by decide
      have isl : (s.heap.push { cls := .type "set", dict := none, data := .set #[] 0 (.fresh 0 0 (!w.params.followText "set-order")) }).IsList l items := ⟨_, hol2, rfl, nl, rfl⟩
      unfold Builtin.«set.__init__» noKeywords Builtin.Frozenset.updateFrom
      generalize hPI : pyIter = PI
      wp_walk
      subst hPI
      refine wpAny_pyIter_list isl ?_
      refine wpAny_bind (wpAny_runValue ?_)
      have ltl : l < s.heap.objs.size := Heap.lt_size hol
      have zz : (s.heap.push { cls := .type "set", dict := none, data := .set #[] 0 (.fresh 0 0 (!w.params.followText "set-order")) }).objs.size = s.heap.objs.size + 1 := Heap.size_push ..
      have h3 : A.in1.in1.in1.handled = none := by simp [hh]
      have apart : l ≠ (s.heap.push { cls := .type "set", dict := none, data := .set #[] 0 (.fresh 0 0 (!w.params.followText "set-order")) }).objs.size := by rw [zz]; exact Nat.ne_of_lt (Nat.lt_succ_of_lt ltl)
      have away : s.heap.objs.size ∉ [(s.heap.push { cls := .type "set", dict := none, data := .set #[] 0 (.fresh 0 0 (!w.params.followText "set-order")) }).objs.size, l] := by
        rw [zz]
        simp only [List.mem_cons, List.not_mem_nil, or_false, not_or]
        exact ⟨Nat.ne_of_lt (Nat.lt_succ_self _), Nat.ne_of_gt ltl⟩
      have vals : ∀ (i : Nat) (v : Value), items[i]? = some v → ∃ t, v = .int (ns.getD i 0) t := fun i v hv => hi.int_at i v (by rw [Array.getElem?_toList]; exact hv)
      have W := (Walks.list (prog := P) (w := w) h3 _ l apart items).toS
      rw [len] at W
      refine set_fill ns W s.heap.objs.size away vals (by omega) (ns.length - 0) 0 _ (by omega) (Nat.zero_le _) ⟨⟨_, Heap.get?_push_size _ rfl, rfl, rfl⟩, isl.push _⟩ ?st ?fin
      case st =>
        refine ⟨0, Nat.le_refl _, ?_⟩
        have r0 := setR_fresh (h := s.heap) w
        exact (r0.at fun o z => Heap.get?_push_of_some _ z).congr fun k => by simp
      case fin =>
        intro s3 mv l3
        obtain ⟨h3, g3, d3, t3, o3⟩ := s3
        obtain rfl : g3 = s.gens := mv.gens
        obtain rfl : d3 = s.drawn := mv.drawn
        obtain rfl : o3 = s.os := mv.os
        show wpAny _ _ _ _ _ _
        refine wpAny_pure ?_
        show wpAny _ _ (ret Value.none) _ _ _
        refine wpAny_pure ⟨rfl, h3, t3, rfl, l3, fun b o hb e => ?_⟩
        refine mv.heap b o ?_ (Heap.get?_push_of_some _ (Heap.get?_push_of_some _ e))
        rw [zz]
        simp only [List.mem_cons, List.not_mem_nil, or_false, not_or]
        exact ⟨Nat.ne_of_lt hb, Nat.ne_of_lt (Nat.lt_succ_of_lt hb)⟩
    · rcases r₂ with e | fl₂
      · exact hr₂
      cases fl₂ with
      | ret r =>
        obtain ⟨rfl, h2, tk, rfl, l2, k2⟩ := hr₂
        repeat (any_goals (first | assumption | wp_step))
        exact h _ _ l2 k2
      | _ => exact hr₂.elim
  | _ => exact hr.elim
end
end DL

namespace DL
open PySem PySem.Spec PyProof.Rows L2

section
variable {P : Program} {w : World} {A : Around} {E : Value → Shared → Prop} {s : Shared} {a : Addr} {S : Int → Bool} {n : Nat}
/-- sorted(a set of ints) of any size -/
theorem sorted_ints {Q : Value → Shared → Prop} (R : SetR w s.heap a S n) (hh : A.handled = none)
    (hQ : ∀ s2 p (out : Array Value) (c : Nat) (ms : List Int), (∀ b o, s.heap.get? b = some o → s2.heap.get? b = some o) → s2.gens = s.gens → s2.os = s.os → s.heap.objs.size ≤ p → s2.heap.get? p = some (seqObj "list" out c) → IntsAre out.toList ms →
      ms.Pairwise (· < ·) → (∀ k, k ∈ ms ↔ S k = true) → out.size ≤ sizeLine → Q (.ref p) s2) : wpAny (model P w) A (call (.builtin "sorted") [.ref a]) Q E s := by
  obtain ⟨o, es, ep, t, ho, hex, hd, g, nd, hm, hb, hf, hn, hr, hl⟩ := R
  refine Calls.call_function_entry kind_sorted plain_sorted entry_sorted (args_sorted1 _) ?_
  unfold Builtin.«sorted»
  refine wpAny_bind (m := checkCount "sorted" 1 1 _) (wpAny_pure (wpAny_bind ?_))
  refine collect_set (A := A.in1) hh ⟨o, ho, hex.1, hd⟩ hf hb hr hl fun s1 vs k1 hz g1 o1 pm => ?_
  have lv : vs.length < scanBound := by rw [pm.length_eq, List.length_map, Array.length_toList]; exact hb
  have lv2 : vs.length ≤ sizeLine := Nat.le_trans (Nat.le_of_lt lv) (by decide)
  have isI : IntsAre vs (vs.map Builtin.Re.reRawOf) := L2.ints_of vs fun v hv => by
    obtain ⟨e, he, q⟩ := List.mem_map.mp (pm.mem_iff.mp hv)
    obtain ⟨k, tk, h1, _⟩ := g e he
    exact ⟨k, tk, by rw [← q]; exact h1⟩
  have pk : (vs.map Builtin.Re.reRawOf).Perm (es.toList.map keyOf) := by
    have q := pm.map Builtin.Re.reRawOf
    rw [List.map_map] at q
    exact q
  refine wpAny_bind (wpAny_newList ?_ lv2)
  have atL : (s1.heap.push (seqObj "list" vs.toArray 0)).get? s1.heap.objs.size = some (seqObj "list" vs.toArray 0) := Heap.get?_push_size _ rfl
  refine wpAny_bind (wpAny_holding (wpAny_call_entry slot_list_sort ⟨_, atL, rfl⟩ entry_list_sort (SrtO.list_sort_ord SrtO.swo_int atL lv2 (fun h2 => SrtO.ints_sortable isI h2) fun out x1 x2 => ⟨_, rfl, ?_⟩) (args_list_sort _)))
  obtain ⟨y1, y2, y3⟩ := SrtO.ints_out isI x1 x2
  obtain ⟨c, hc⟩ := sortedHeap_at (vs := vs) (out := out.toArray) atL
  have pn := y2.trans pk
  refine wpAny_pure ⟨_, rfl, hQ _ s1.heap.objs.size out.toArray c (out.map SrtO.iv) (fun b u e => ?_) g1 o1 hz hc y1 (lt_of_le_nodup _ y3 (pn.nodup_iff.mpr nd)) (fun k => by rw [pn.mem_iff, ← hm k]) ?_⟩
  · have q := k1 b u e
    have lt := Heap.lt_size q
    show (sortedHeap (s1.heap.push (seqObj "list" vs.toArray 0)) s1.heap.objs.size vs out.toArray).get? b = some u
    rw [sortedHeap_old (Nat.ne_of_lt lt) (by rw [size_push']; exact Nat.lt_succ_of_lt lt)]
    exact Heap.get?_push_of_some _ q
  · rw [List.size_toArray, x2.perm.length_eq]; exact lv2
end
section
variable {X : Cx} {G : Gx} {s s1 : Bool} {e : Expr} {we : WE} {ta : TE} {p p2 q pos : Pos}
def tSortSet (K : PySem.W.Frag) (ta : TE) : TE := fun σ H Q => ta σ H fun x H1 => ∃ (l : Addr) (ns : List Int), x = V.ref l ∧ SqL K H1 l (ns.map V.int) ∧ ns.length ≤ 4000 ∧
  ∀ (ms : List Int) (p : Addr), ms.Pairwise (· < ·) → (∀ k, k ∈ ms ↔ k ∈ ns) → H1 p = none → Q (.ref p) (upd H1 p (.lst (ms.map V.int)))
theorem pe_sortSet (hc : X.calm = true) (hg : Gl X "sorted") (hm : X.mg "sorted" = none) (hg2 : Gl X "set") (hm2 : X.mg "set" = none) (ha : PE X e ta) (na : starEach [e] X.env = (false, eval e X.env) :: starEach [] X.env := by rfl) :
    PE X (.Call (.Name "sorted" p) [.Call (.Name "set" p2) [e] [] q] [] pos) (tSortSet X.K ta) := ⟨fun pins s σ H Q I h => by
  refine Call_ (ld_blt I hg hm boot_sorted (callWith_builtin1 (args_cons ?_ rfl) rfl rfl))
  refine Call_ (ld_blt I hg2 hm2 boot_set (callWith_type1 (args_cons (thn (ha.run pins s σ H _ I h) fun v s1 ⟨x, H1, I1, r1, q1⟩ => args_nil ?_) na) na rfl))
  obtain ⟨l, ns, rfl, hq, h1, q1⟩ := q1
  cases r1
  obtain ⟨its, r, pl, hz⟩ := I1.list hq
  have len : its.toArray.size = ns.length := by rw [List.size_toArray, ← r.length, List.length_map]
  refine set_of_list (I1.ok.hd hc) pl.isList (ns := ns) (by simpa using r.ints) (by unfold scanBound; omega) fun h2 tk ⟨m, hm2, R⟩ hk => args_nil ?_
  have I2 : Inv X pins σ H1 { s1 with heap := h2, toks := tk } := I1.kept fun b o e => hk b o (Heap.lt_size e) e
  refine sorted_ints R (I2.ok.hd hc) fun s3 p out c ms k g o hp hg hi hs hmem hl => ?_
  have hlen : (ms.map V.int).length ≤ sizeLine := by rw [List.length_map, ← hi.length, Array.length_toList]; exact hl
  obtain ⟨h3, g3, d3, t3, o3⟩ := s3
  obtain rfl : o3 = s1.os := o
  have J : Inv X pins σ (upd H1 p (.lst (ms.map V.int))) ⟨h3, g3, d3, t3, s1.os⟩ := Inv.call (s := ⟨h2, s1.gens, s1.drawn, tk, s1.os⟩) (ch := []) I2 (Un.laid k hp (I2.hok.fresh hp)) (I2.hok.laid k hp ⟨hlen, out.toList, c, vals_of_ints hi, hg⟩) (by rw [show g3 = s1.gens from g]; exact I2.bare) (fun _ z => nomatch z)
  exact ⟨.ref p, _, J, rfl, q1 ms p hs (fun x => by rw [hmem]; simp) (I2.hok.fresh hp)⟩⟩
def wSortSet (we : WE) : WE := fun ρ Φ => we ρ fun d => match d with | .list xs => (∃ ns : List Int, xs = ns.map .int ∧ ns.length ≤ 4000 ∧ ∀ ms : List Int, ms.Pairwise (· < ·) → (∀ k, k ∈ ms ↔ k ∈ ns) → Φ (.list (ms.map .int))) | _ => False
theorem de_sortSet (hK : X.K = G.W.K) (hc : X.calm = true) (hg : Gl X "sorted") (hm : X.mg "sorted" = none) (hg2 : Gl X "set") (hm2 : X.mg "set" = none) (ha : PE X e (up G s we)) (na : starEach [e] X.env = (false, eval e X.env) :: starEach [] X.env := by rfl) :
    PE X (.Call (.Name "sorted" p) [.Call (.Name "set" p2) [e] [] q] [] pos) (up G s (wSortSet we)) := pe_weak (pe_sortSet hc hg hm hg2 hm2 ha na) fun σ H Q ⟨an, O, ρ, Φ, S, h, q⟩ => by
  rw [hK]
  refine ⟨an, O, ρ, _, S, h, fun v H1 d h1 im k1 i1 => ?_⟩
  have S1 := S.keep k1 i1
  cases d with
  | list xs =>
    obtain ⟨ns, rfl, hl, h1⟩ := h1
    obtain ⟨a, vs, rfl, r, n, m⟩ := im
    have e := ImA.ints m
    subst e
    refine ⟨a, ns, rfl, .inl (.inl r), hl, fun ms p o1 o2 hp => q _ _ _ (h1 ms o1 o2) (S1.lst hp (ImA.of_ints ms)) (k1.trans (Keep.new hp)) (S1.newI hp)⟩
  | _ => exact h1.elim
end
end DL

namespace DL
open PySem PySem.Spec PyProof.Rows L2

section
variable {X : Cx} {G : Gx} {s s1 s2 : Bool} {e a b : Expr} {we wa wb : WE} {wl wh : WO} {lo hi : Option Expr} {p p2 q pos : Pos}
mutual
theorem dOk.noDict : ∀ (n : Nat) (d : PyData), dOk n d = true → d.hasDict = false
  | n, .none, _ => by simp only [PyData.hasDict]
  | n, .bool _, _ => by simp only [PyData.hasDict]
  | n, .int _, _ => by simp only [PyData.hasDict]
  | n, .str x, _ => by simp only [PyData.hasDict]
  | 0, .list _, h => by simp [dOk] at h
  | 0, .tuple _, h => by simp [dOk] at h
  | n + 1, .list ds, h => by simp only [PyData.hasDict]; exact dOkA.noDict n ds (by simpa [dOk] using h)
  | n + 1, .tuple ds, h => by simp only [PyData.hasDict]; exact dOkA.noDict n ds (by simpa [dOk] using h)
  | n, .dict _, h => by cases n <;> simp [dOk] at h
theorem dOkA.noDict : ∀ (n : Nat) (ds : List PyData), dOkA n ds = true → PyData.hasDictAll ds = false
  | n, [], _ => by simp only [PyData.hasDictAll]
  | n, d :: ds, h => by
    have h2 : dOk n d = true ∧ dOkA n ds = true := by simpa [dOkA, Bool.and_eq_true] using h
    simp only [PyData.hasDictAll]
    rw [dOk.noDict n d h2.1, dOkA.noDict n ds h2.2]
    rfl
end
def rRepr (K : PySem.W.Frag) : List V → Hp → VK → Prop := fun vs H Q => ∃ x d, vs = [x] ∧ Dp K H x d ∧ Fit d ∧ d.showable = true ∧ d.shown.length ≤ sizeLine ∧ Q (.str d.shown) H
theorem cr_repr (hg : X.A.guards = some []) (hu : X.A.units + 65 < cLine) : CallR X (.builtin "repr") (rRepr X.K) := by
  intro pins s σ H xs us Q I r h
  obtain ⟨x, d, rfl, hd, hf, hs, hz, q⟩ := h
  obtain ⟨u, rfl, rx⟩ := vals1 r
  have fin : ∀ (h2 : Heap) (t : Tok) (tk : Nat), (∀ b o, s.heap.get? b = some o → h2.get? b = some o) → EP X pins σ Q (.str d.shown t) { s with heap := h2, toks := tk } := fun h2 t tk k => ⟨.str d.shown, H, I.kept k, ⟨t, rfl⟩, q⟩
  have all := dOk.all 20 d hf
  have seq : ∀ a, u = .ref a → wpAny (model X.prog X.w) X.A (call (.builtin "repr") [u]) (EP X pins σ Q) X.xe s := fun a ea => by
    subst ea
    obtain ⟨as, rd⟩ := Dp.reads I d x _ hd rx
    refine repr_of_reads' rd hs (fun z => by rw [dOk.noDict 20 d hf] at z; cases z) hg (by have := all.2.2; omega) (fun _ _ z => z) (fun h2 t tk k => fin h2 t tk k) hz
  cases hd with
  | non => cases rx; exact PySem.P.repr_of_none (fin s.heap _ _ fun _ _ z => z)
  | bl i =>
    cases rx
    refine PySem.P.repr_of_bool ?_
    have e := fin s.heap s.toks (s.toks + 1) fun _ _ z => z
    cases i <;> exact e
  | int i =>
    obtain ⟨t, rfl⟩ := rx
    exact PySem.P.repr_of_int (by simpa [PyData.showable] using hs) (fin s.heap _ _ fun _ _ z => z)
  | str z =>
    obtain ⟨t, rfl⟩ := rx
    exact PySem.P.repr_of_str (fin s.heap _ _ fun _ _ z => z) hz
  | lst h1 h2 => exact seq _ rx
  | tup h1 h2 => exact seq _ rx
def fRepr : FD := fun ds Φ => match ds with | [d] => Fit d ∧ d.showable = true ∧ d.shown.length ≤ 100000 ∧ Φ (.str d.shown) | _ => False
theorem cd_repr : CallD G s s1 (rRepr G.W.K) fRepr := by
  intro an O σ ρ H vs ds Φ Q S hv hf q
  unfold fRepr at hf
  split at hf
  · obtain ⟨v, rfl, im⟩ := im1 hv
    exact ⟨v, _, rfl, Im.dp _ v (dOk.plain hf.1) im, hf.1, hf.2.1, line5 hf.2.2.1, q _ H _ hf.2.2.2 rfl (Keep.refl H) S.inv⟩
  · exact hf.elim
def rInS : R2 := fun x y H Q => ∃ i j, x = .str i ∧ y = .str j ∧ Q (.bl (!(Builtin.Str.occurrences j i 0 j.length 1).isEmpty)) H
def fInS : PyData → PyData → (PyData → Prop) → Prop := fun x y Φ => match x, y with | .str i, .str j => Φ (.bool (!(Builtin.Str.occurrences j i 0 j.length 1).isEmpty)) | _, _ => False
theorem od_inS : OpD G s s1 s2 rInS fInS := by
  intro an O σ ρ H x y d e Φ Q S hx hy hf q
  unfold fInS at hf
  split at hf
  · exact ⟨_, _, hx, hy, q _ H _ hf rfl (Keep.refl H) S.inv⟩
  · exact hf.elim
theorem tuple_mul1 (l : Addr) (items : Array Value) (n : Nat) (dd : Option Addr) (sl : Array (Option Value)) (u : Tok) : Meets (Builtin.«tuple.__mul__» ⟨[.ref l, .int 1 u], []⟩) (fun _ R s => s.heap.get? l = some { cls := .type "tuple", dict := dd, data := .seq items n, slots := sl } ∧ R (.ok (.ret (Value.ref l))) s) :=
  .of_wp fun prog w A R s h => by
    obtain ⟨hp, g, d, tk, os⟩ := s
    obtain ⟨hl, h⟩ := h
    have f1 := AutoSeq1.idx_int
    have c0 : (decide ((1 : Int) < -(2 ^ 63)) || decide ((1 : Int) ≥ 2 ^ 63)) = false := by decide
    have c1 : (items.isEmpty || (1 : Int) == 1) = true := by simp
    wp_walk using AutoSeq1.wpAny_loadPart' hl
    repeat (first
      | (refine wpAny_ite_false (decide_eq_false (by rw [c0]; exact Bool.false_ne_true)) ?_; wp_walk using AutoSeq1.wpAny_loadPart' hl)
      | (refine wpAny_ite_true (decide_eq_true (by rw [c1])) ?_; wp_walk using AutoSeq1.wpAny_loadPart' hl))
    exact ⟨_, rfl, h⟩
def rRep1 (K : PySem.W.Frag) : R2 := fun x y H Q => ∃ l xs, x = .ref l ∧ y = .int 1 ∧ SqT K H l xs ∧ Q (.ref l) H
theorem op_rep1 : OpR X (binaryOp .Mult) (rRep1 X.K) := by
  intro pins s σ H x y v u Q I rx ry h
  obtain ⟨l, xs, rfl, rfl, hT, q⟩ := h
  cases rx
  obtain ⟨t, rfl⟩ := ry
  obtain ⟨its, r, ⟨⟨cls, dd, data, sl⟩, ho, hc, n, hd⟩, hs⟩ := I.tuple hT
  simp only at hc hd
  subst hc hd
  exact wpAny_binaryOp_repeat_ref (T := "tuple") (U := "int") (by decide) ⟨_, ho, rfl⟩ (fun s' => typeIs_int s' 1 t) noFill_tuple_mul F.fills_int_mul F.slot_int_rmul repeat_tuple F.slot_int_index.lookup
    (call_meets F.slot_int_rmul (typeIs_int s 1 t) F.entry_int_rmul (F.args_int_rmul_2 _ _) (int_rmul_tuple 1 t l its.toArray n dd sl)
      ⟨ho, rfl, ⟨_, ho, rfl⟩, call_meets F.slot_tuple_mul ⟨_, ho, rfl⟩ F.entry_tuple_mul (F.args_tuple_mul_2 _ _) (tuple_mul1 l its.toArray n dd sl t) ⟨ho, ⟨.ref l, H, I, rfl, q⟩⟩⟩)
/-- products: of ints, of a list or a tuple and an int -/
def fMulT : PyData → PyData → (PyData → Prop) → Prop := fun x y Φ => match x, y with
  | .tuple as, .int k => 1 ≤ k ∧ k ≤ 1000 ∧ as ≠ [] ∧ as.length ≤ 100 ∧ Φ (.tuple (List.replicate k.toNat as).flatten)
  | _, _ => False
def rMulT (K : PySem.W.Frag) : R2 := fun x y H Q => rRep1 K x y H Q ∨ rRepT K x y H Q
theorem op_mulT : OpR X (binaryOp .Mult) (rMulT X.K) := opR_or op_rep1 op_repT
theorem od_mulT : OpD G s s s2 (rMulT G.W.K) fMulT := by
  intro an O σ ρ H x y d e Φ Q S hx hy hf q
  unfold fMulT at hf
  split at hf
  · rename_i as k
    obtain ⟨h1, h2, h3, h4, hf⟩ := hf
    obtain rfl : y = .int k := hy
    have hx2 := hx
    obtain ⟨l, xs, rfl, r, m⟩ := hx
    have len := ImA.length m
    by_cases z : k = 1
    · subst z
      have e1 : (List.replicate (1 : Int).toNat as).flatten = as := by show (List.replicate 1 as).flatten = as; simp
      rw [e1] at hf
      exact .inl ⟨l, xs, rfl, rfl, r, q _ H _ hf hx2 (Keep.refl H) S.inv⟩
    · refine .inr ⟨l, k, xs, rfl, rfl, r, fun e => h3 ?_, by omega, h2, by omega, fun p hp => ?_⟩
      · exact List.eq_nil_of_length_eq_zero (by rw [← len, e]; rfl)
      · exact q _ _ _ hf (S.tup hp (ImA.rep m _)) (Keep.new hp) (S.newI hp)
  · exact hf.elim
def wListRg (we : WE) : WE := fun ρ Φ => we ρ fun d => match d with | .int n => n ≤ 100000 ∧ 0 ≤ n ∧ Φ (.list (intsFrom 0 n.toNat)) | _ => False
theorem ima_rg {W : Wd} {N : Addr → Prop} {H : Hp} {n : Int} : ImA W N H (intsFrom 0 n.toNat) (rgV 0 n) := by
  have e1 : intsFrom 0 n.toNat = ((List.range n.toNat).map fun i => (0 : Int) + (i : Nat)).map PyData.int := by unfold intsFrom; rw [List.map_map]; rfl
  have e2 : rgV 0 n = ((List.range n.toNat).map fun i => (0 : Int) + (i : Nat)).map V.int := by unfold rgV; rw [List.map_map, Int.sub_zero]; rfl
  rw [e1, e2]
  exact ImA.of_ints _
theorem de_listRg (hc : X.calm = true) (hg : Gl X "list") (hm : X.mg "list" = none) (hg2 : Gl X "range") (hm2 : X.mg "range" = none) (ha : PE X a (up G s1 wa)) (na : starEach [a] X.env = (false, eval a X.env) :: starEach [] X.env := by rfl) :
    PE X (.Call (.Name "list" p) [.Call (.Name "range" p2) [a] [] q] [] pos) (up G s (wListRg wa)) :=
  pe_weak (pe_listRg hc hg hm (prg_1 hg2 hm2 ha na)) fun σ H Q ⟨an, O, ρ, Φ, S, h, q⟩ => by
    refine ⟨an, O, ρ, _, S, h, fun v H1 d h1 im k1 i1 => ?_⟩
    have S1 := S.keep k1 i1
    cases d with
    | int n => exact ⟨n, im, ⟨by omega, by omega, by omega, by omega, by omega⟩, fun p hp => q _ _ _ h1.2.2 (S1.lst hp ima_rg) (k1.trans (Keep.new hp)) (S1.newI hp)⟩
    | _ => exact h1.elim
section
variable {x : Str} {p1 : Pos}
theorem de_slen (i : Nat) (hK : X.K = G.W.K) (hg : Gl X "len") (hm : X.mg "len" = none) (hN : X.N[i]? = some x := by rfl) (hv : Vis X.env.scope x := by first | exact Or.inl rfl | exact Or.inr (Or.inl rfl) | exact Or.inr (Or.inr rfl)) (hd : (x == ("__debug__" : Str)) = false := by decide)
    (hcd : (x == ("__classdict__" : Str)) = false := by decide) (he : starEach [.Name x p1] X.env = (false, eval (.Name x p1) X.env) :: starEach [] X.env := by rfl) : PE X (.Call (.Name "len" p) [.Name x p1] [] pos) (up G s (wSLen i)) :=
  pe_weak (pe_callB call_len_seq hg hm PySem.boot_len (pa_cons (pe_var hN hv hd hcd) pa_nil he) (by decide) (by decide) he) fun σ H Q ⟨an, O, ρ, Φ, S, h, q⟩ => by
    obtain ⟨ns, a, e1, e2, h⟩ := s_slot (α := Unit) (P := fun ns => Φ (.int ns.length)) S h
    refine ⟨.ref a, e1, a, ns.map V.int, rfl, .inl (by rw [hK]; exact e2.sql), ?_⟩
    rw [List.length_map]
    exact q _ H _ h rfl (Keep.refl H) S.inv
theorem de_ssl (i : Nat) (hK : X.K = G.W.K) (hl : PO X lo (upO G wl)) (hh : PO X hi (upO G wh)) (hN : X.N[i]? = some x := by rfl) (hv : Vis X.env.scope x := by first | exact Or.inl rfl | exact Or.inr (Or.inl rfl) | exact Or.inr (Or.inr rfl)) (hd : (x == ("__debug__" : Str)) = false := by decide)
    (hcd : (x == ("__classdict__" : Str)) = false := by decide) : PE X (.Subscript (.Name x p1) (.Slice lo hi none p2) pos) (up G s (wSSl i wl wh)) :=
  pe_weak (pe_slice sl_list (pe_var hN hv hd hcd) hl hh) fun σ H Q ⟨an, O, ρ, Φ, S, h, q⟩ => by
    obtain ⟨ns, a, e1, e2, h⟩ := s_slot (α := Unit) (P := fun ns => wl ρ fun lo => wh ρ fun hi => Φ (.list ((cutG ns lo hi).map .int))) S h
    refine ⟨.ref a, e1, an, O, ρ, _, S, h, fun lo H2 h2 k2 i2 => ?_⟩
    have S2 := S.keep k2 i2
    refine ⟨an, O, ρ, _, S2, h2, fun hi H3 h3 k3 i3 => ?_⟩
    have S3 := S2.keep k3 i3
    refine ⟨a, ns.map V.int, rfl, by rw [hK]; exact ((e2.keep k2).keep k3).sql, fun p hp => q _ _ _ h3 (S3.lst hp ?_) ((k2.trans k3).trans (Keep.new hp)) (S3.newI hp)⟩
    rw [cutV_cutG, ← cut_map]
    exact ImA.of_ints _
theorem de_six (i : Nat) (hK : X.K = G.W.K) (hb : PE X b (up G s2 wb)) (hs : PlainIx b) (hN : X.N[i]? = some x := by rfl) (hv : Vis X.env.scope x := by first | exact Or.inl rfl | exact Or.inr (Or.inl rfl) | exact Or.inr (Or.inr rfl)) (hd : (x == ("__debug__" : Str)) = false := by decide)
    (hcd : (x == ("__classdict__" : Str)) = false := by decide) : PE X (.Subscript (.Name x p1) b pos) (up G s (wSIx i wb)) :=
  pe_weak (pe_ix ix_list (pe_var hN hv hd hcd) hb hs) fun σ H Q ⟨an, O, ρ, Φ, S, h, q⟩ => by
    obtain ⟨ns, a, e1, e2, h⟩ := s_slot (α := Unit) (P := fun ns => wb ρ fun y => match y with | .int k => (∃ d, atI ns k = some d ∧ Φ (.int d)) | _ => False) S h
    refine ⟨.ref a, e1, an, O, ρ, _, S, h, fun v H1 d h1 im k1 i1 => ?_⟩
    cases d with
    | int k =>
      obtain ⟨j, hj, hq⟩ := h1
      exact ⟨a, ns.map V.int, k, .int j, rfl, im, by rw [hK]; exact (e2.keep k1).sql, atI_map hj, q _ H1 _ hq rfl k1 i1⟩
    | _ => exact h1.elim
end
end
end DL

namespace DL
open PySem PySem.Spec PyProof.Rows L2

section
variable {X : Cx} {G : Gx} {an src : List (PyData × V)} {O O2 O4 : Nat → Option Addr} {σ σ4 : L2.St} {H H1 H2 : Hp} {ρ ρ4 : Ev} {D : Addr} {acc : List PyData}
/-- the list being made lies at D -/
structure Mk2 (G : Gx) (an : List (PyData × V)) (O2 : Nat → Option Addr) (σ : L2.St) (ρ : Ev) (H1 : Hp) (D : Addr) (acc : List PyData) (ws : List V) (H : Hp) : Prop where
  few : acc.length ≤ 100000
  at_ : H D = some (.lst ws)
  im : ImA G.W (Nv G.A O2) H acc ws
  sta : Sta G an O2 σ H ρ
  c1 : ∀ a o, a ≠ D → H1 a = some o → ¬ G.R.M a → H a = some o
  c2 : ∀ a xs, H1 a = some (.tup xs) → H a = some (.tup xs)
  c3 : ∀ a o u, H1 a = some (.frz o u) → H a = some (.frz o u)
theorem Mk2.keep {ws : List V} {j : Nat} (m : Mk2 G an O2 σ ρ H1 D acc ws H) (hO : O2 j = some D) (k : Keep G.R.M H H2) (i : G.R.I H2) : Mk2 G an O2 σ ρ H1 D acc ws H2 :=
  ⟨m.few, k.ob D _ m.at_ (m.sta.nM hO), ImA.keep (k.mono fun a z => .inl (m.sta.ra a z)) _ _ m.im, m.sta.keep k i, fun a o n e z => k.ob a o (m.c1 a o n e z) z, fun a xs e => k.tp a xs (m.c2 a xs e), fun a o u e => k.fz a o u (m.c3 a o u e)⟩
theorem Mk2.push {ws : List V} {j : Nat} {d : PyData} {y : V} (m : Mk2 G an O2 σ ρ H1 D acc ws H) (hj : ρ.length ≤ j) (hO : O2 j = some D) (hl : acc.length < 100000) (hy : Im G.W (Nv G.A O2) H d y) : Mk2 G an O2 σ ρ H1 D (acc ++ [d]) (ws ++ [y]) (upd H D (.lst (ws ++ [y]))) := by
  have kD : Keep (Nv G.A O2) H (upd H D (.lst (ws ++ [y]))) := Keep.set m.at_ (.inr ⟨j, hO⟩)
  refine ⟨by rw [List.length_append]; exact hl, upd_same, ImA.keep kD _ _ (ImA.append m.im (ImA.one hy)), m.sta.chgP hj hO m.at_, fun a o n e z => ?_, fun a xs e => kD.tp a xs (m.c2 a xs e), fun a o u e => kD.fz a o u (m.c3 a o u e)⟩
  rw [upd_ne n]
  exact m.c1 a o n e z
variable {wi wi1 : WI} {g g1 : WG} {wt wt1 : WT} {we : WE} {vs vs1 is is1 : List Nat}
def wLc2 (wi : WI) (g : WG) (wt : WT) (wi1 : WI) (g1 : WG) (wt1 : WT) (we : WE) (vs vs1 : List Nat) : WF := fun ρ Φ => noOwn ρ vs = true ∧ wi ρ fun ds => ∃ J : Nat → List PyData → Prop, J 0 [] ∧
  (∀ (i : Nat) (d : PyData) (acc : List PyData), ds[i]? = some d → J i acc → acc.length ≤ 100000 → g d (wipeE ρ vs) fun ρ2 => wt ρ2 fun b => if b = true then (noOwn ρ2 vs1 = true ∧ wi1 ρ2 fun es => ∃ J1 : Nat → List PyData → Prop, J1 0 acc ∧
    (∀ (j : Nat) (e : PyData) (acc1 : List PyData), es[j]? = some e → J1 j acc1 → acc1.length ≤ 100000 → g1 e (wipeE ρ2 vs1) fun ρ3 => wt1 ρ3 fun b1 => if b1 = true then we ρ3 fun y => acc1.length < 100000 ∧ J1 (j + 1) (acc1 ++ [y]) else J1 (j + 1) acc1) ∧
    ∀ acc1, J1 es.length acc1 → J (i + 1) acc1) else J (i + 1) acc) ∧ ∀ acc, J ds.length acc → Φ acc
theorem wipe_len2 {σ σ2 : L2.St} {vs : List Nat} (h : L2.wipe σ2 vs = L2.wipe σ vs) : σ2.length = σ.length := by
  rw [← wipe_length σ2 vs, h, wipe_length]
theorem up_lc2 (hv : ∀ i ∈ is, i ∈ vs) (hv1 : ∀ i ∈ is1, i ∈ vs1) (hv2 : ∀ i ∈ vs1, i ∈ vs) (σ : L2.St) (H : Hp) (Q : VK) (h : upF G (wLc2 wi g wt wi1 g1 wt1 we vs vs1) σ H Q) :
    tLc2 (upI G true wi) (upG G is g) (upT G wt) (upI G true wi1) (upG G is1 g1) (upT G wt1) (up G true we) vs vs1 σ H Q := by
  obtain ⟨an, O, ρ, Φ, S, ⟨hno, h⟩, q⟩ := h
  have hno := noOwn_at hno
  refine ⟨an, O, ρ, _, S, h, fun J H1 ds src h1 sv im k1 i1 D hD => ?_⟩
  obtain ⟨JJ, j0, jt, je⟩ := h1
  have S1 := (S.keep k1 i1).ana im
  have hD0 : H D = none := S1.back k1 hD
  obtain ⟨bd, hbd⟩ := S1.ob
  obtain ⟨jD, hjD⟩ : ∃ n, n = max bd ρ.length := ⟨_, rfl⟩
  have hj : ρ.length ≤ jD := hjD ▸ Nat.le_max_right _ _
  have start := S1.own (H' := upd H1 D (.lst [])) hD upd_same (Keep.new hD) (S1.newI hD) jD hj
  generalize hO2 : setO O jD (some D) = O2 at start
  have oD : O2 jD = some D := by rw [← hO2]; exact setO_same
  have nvD : ∀ a, Nv G.A O2 a → Nv G.A O a ∨ a = D := fun a z => by
    rcases z with z | ⟨i, z⟩
    · exact .inl (.inl z)
    · rw [← hO2] at z
      by_cases y : i = jD
      · rw [y, setO_same] at z; cases z; exact .inr rfl
      · rw [setO_ne y] at z; exact .inl (.inr ⟨i, z⟩)
  have nvD' : ∀ a, Nv G.A O a ∨ a = D → Nv G.A O2 a := fun a z => by
    rcases z with (z | ⟨i, z⟩) | z
    · exact .inl z
    · by_cases y : i = jD
      · rw [y, hbd _ (hjD ▸ Nat.le_max_left _ _)] at z; cases z
      · exact .inr ⟨i, by rw [← hO2, setO_ne y]; exact z⟩
    · rw [z]; exact .inr ⟨_, oD⟩
  have kD : Keep G.R.M H1 (upd H1 D (.lst [])) := Keep.new hD
  -- a slot that is forgotten is none of the avoided places
  have stays : ∀ {O4 : Nat → Option Addr} {is' : List Nat}, Less is' O2 O4 → (∀ i ∈ is', i ∈ vs) → ∀ i a, O2 i = some a → O4 i = some a := fun {O4 is'} x4 hs i a e => by
    rcases x4 i a e with y | y
    · obtain ⟨y1, y2⟩ := hno i (hs i y)
      rcases start.oe i a e with w | ⟨ds, w⟩
      · omega
      · exact absurd w (y2 ds)
    · exact y
  have sub : ∀ {O4 : Nat → Option Addr}, (∀ i a, O2 i = some a → O4 i = some a) → ∀ {H6 : Hp} {d : PyData} {v : V}, Im G.W (Nv G.A O4) H6 d v → Im G.W (Nv G.A O2) H6 d v := fun {O4} hs {H6 d v} m =>
    Im.avoid (fun a o _ z => z.elim .inl fun ⟨l, z⟩ => .inr ⟨l, hs l a z⟩) _ _ m
  refine ⟨fun i m H' => i + m = ds.length ∧ ∃ acc ws, JJ i acc ∧ Mk2 G (src ++ an) O2 σ ρ H1 D acc ws H', ⟨ds.length, by omega, [], [], j0, Nat.zero_le _, upd_same, rfl, start, fun a o n e _ => by rw [upd_ne n]; exact e, fun a xs e => kD.tp a xs e, fun a o u e => kD.fz a o u e⟩, ?_⟩
  rintro i m H2 ⟨hm, acc, ws, ja, mk⟩
  have sv2 := sv (Nv G.A O2) H2 i fun p hp => mk.sta.as p (List.mem_append_left _ hp)
  by_cases hlt : i < ds.length
  · obtain ⟨go, yl⟩ := sv2.1 hlt
    refine .inr ⟨go, fun H' => ∃ acc ws, JJ (i + 1) acc ∧ Mk2 G (src ++ an) O2 σ ρ H1 D acc ws H', fun H' hN => ⟨m - 1, by omega, by omega, hN⟩, fun x H3 y => ?_⟩
    obtain ⟨k3, iv⟩ := yl x H3 y
    have hd : ds[i]? = some ds[i] := List.getElem?_eq_getElem hlt
    have mk3 := mk.keep oD (Keep.none k3) (stK_of mk.sta.inv k3)
    refine ⟨src ++ an, O2, wipeE ρ vs, ds[i], _, mk3.sta.wipe vs fun v hv => (hno v hv).2, iv _ hd, jt i _ acc hd ja mk.few, fun O4 σ4 ρ4 S4 h4 w4 x4 => ?_⟩
    have st4 := stays x4 hv
    have l4 : ρ4.length = ρ.length := by
      rw [← S4.len, wipe_len2 (w4 vs hv), wipe_length, mk3.sta.len]
    refine ⟨?_, src ++ an, O4, ρ4, _, S4, h4, fun b H5 hb k5 i5 => ?_⟩
    · rw [w4 vs hv]
      exact wipe_sub σ vs vs fun _ h => h
    · have mk5 := mk3.keep oD k5 i5
      have S5 := S4.keep k5 i5
      cases b with
      | false =>
        rw [if_neg Bool.false_ne_true] at hb
        show (if false = true then _ else _)
        rw [if_neg Bool.false_ne_true]
        exact ⟨acc, ws, hb, mk5⟩
      | true =>
        rw [if_pos rfl] at hb
        show (if true = true then _ else _)
        rw [if_pos rfl]
        obtain ⟨hno1, hb⟩ := hb
        have hno1 := noOwn_at hno1
        refine ⟨src ++ an, O4, ρ4, _, S5, hb, fun J1 H6 es src1 h6 sv1 im1 k6 i6 => ?_⟩
        obtain ⟨JI, ji0, jit, jie⟩ := h6
        have mk6 := mk5.keep oD k6 i6
        have S6 := (S5.keep k6 i6).ana im1
        refine ⟨fun j k H' => j + k = es.length ∧ ∃ acc ws, JI j acc ∧ Mk2 G (src ++ an) O2 σ ρ H1 D acc ws H' ∧ Sta G (src1 ++ (src ++ an)) O4 σ4 H' ρ4, ⟨es.length, by omega, acc, ws, ji0, mk6, S6⟩, ?_⟩
        rintro j k H7 ⟨hk, acc7, ws7, ja7, mk7, S7⟩
        have sv7 := sv1 (Nv G.A O4) H7 j fun p hp => S7.as p (List.mem_append_left _ hp)
        by_cases hlt7 : j < es.length
        · obtain ⟨go7, yl7⟩ := sv7.1 hlt7
          refine .inr ⟨go7, fun H' => ∃ acc ws, JI (j + 1) acc ∧ Mk2 G (src ++ an) O2 σ ρ H1 D acc ws H' ∧ Sta G (src1 ++ (src ++ an)) O4 σ4 H' ρ4, fun H' hN => ⟨k - 1, by omega, by omega, hN⟩, fun x8 H8 y8 => ?_⟩
          obtain ⟨k8, iv8⟩ := yl7 x8 H8 y8
          have hd8 : es[j]? = some es[j] := List.getElem?_eq_getElem hlt7
          have K8 := Keep.none (M := G.R.M) k8
          have I8 := stK_of mk7.sta.inv k8
          have mk8 := mk7.keep oD K8 I8
          have S8 := S7.keep K8 I8
          refine ⟨src1 ++ (src ++ an), O4, wipeE ρ4 vs1, es[j], _, S8.wipe vs1 fun v hv => (hno1 v hv).2, iv8 _ hd8, jit j _ acc7 hd8 ja7 mk7.few, fun O9 σ9 ρ9 S9 h9 w9 x9 => ?_⟩
          have st9 : ∀ i a, O4 i = some a → O9 i = some a := fun l a e => by
            rcases x9 l a e with y | y
            · obtain ⟨y1, y2⟩ := hno1 l (hv1 l y)
              rcases S8.oe l a e with w | ⟨ds, w⟩
              · omega
              · exact absurd w (y2 ds)
            · exact y
          refine ⟨?_, src1 ++ (src ++ an), O9, ρ9, _, S9, h9, fun b1 H10 hb1 k10 i10 => ?_⟩
          · rw [w9 vs1 hv1]
            exact wipe_sub σ4 vs1 vs1 fun _ h => h
          · have mk10 := mk8.keep oD k10 i10
            cases b1 with
            | false =>
              rw [if_neg Bool.false_ne_true] at hb1
              show (if false = true then _ else _)
              rw [if_neg Bool.false_ne_true]
              exact ⟨acc7, ws7, hb1, mk10, S8.keep k10 i10⟩
            | true =>
              rw [if_pos rfl] at hb1
              show (if true = true then _ else _)
              rw [if_pos rfl]
              refine ⟨src1 ++ (src ++ an), O9, ρ9, _, S9.keep k10 i10, hb1, fun y H11 d11 h11 im11 k11 i11 => ?_⟩
              have mk11 := mk10.keep oD k11 i11
              have S11 := (S8.keep k10 i10).keep k11 i11
              refine ⟨ws7, mk11.at_, ?_, acc7 ++ [d11], ws7 ++ [y], h11.2, mk11.push hj oD h11.1 (sub (fun l a e => st9 l a (st4 l a e)) im11), S11.chgP (by rw [l4]; exact hj) (st4 _ _ oD) mk11.at_⟩
              rw [ImA.length mk11.im]
              exact Nat.lt_of_lt_of_le h11.1 (by decide)
        · have e : j = es.length := by omega
          exact .inl ⟨sv7.2 (by omega), acc7, ws7, jie acc7 (by rw [← e]; exact ja7), mk7⟩
  · have e : i = ds.length := by omega
    refine .inl ⟨sv2.2 (by omega), q D H2 acc ws (je acc (by rw [← e]; exact ja)) hD0 mk.at_ (ImA.avoid (fun a o _ z => nvD' a z) _ _ mk.im) ?_ mk.sta.inv⟩
    exact ⟨fun a o e1 z => mk.c1 a o (ne_of_none e1 hD0) (k1.ob a o e1 z) z, fun a xs e1 => mk.c2 a xs (k1.tp a xs e1), fun a o u e1 => mk.c3 a o u (k1.fz a o u e1)⟩
variable {tg iter tg1 iter1 elt : Expr} {ifs ifs1 : List Expr} {scope : Scope} {own : List (Str × Nat)} {pos : Pos}
theorem df_lc2 (hc : X.calm = true) (hN : X.N.Nodup) (hi : PI X tg iter (upI G true wi)) (ok : BlkOk X.N X.env.scope scope own) (hg : InBlk X scope fun Y => PG Y tg (upG G is g)) (ht : InBlk X scope fun Y => PTs Y ifs (upT G wt))
    (hi1 : InBlk X scope fun Y => PI Y tg1 iter1 (upI G true wi1)) (hg1 : InBlk X scope fun Y => PG Y tg1 (upG G is1 g1)) (ht1 : InBlk X scope fun Y => PTs Y ifs1 (upT G wt1)) (he : InBlk X scope fun Y => PE Y elt (up G true we))
    (hv : ∀ i ∈ is, i ∈ own.map (·.2) := by decide) (hv1 : ∀ i ∈ is1, i ∈ vs1 := by decide) (hv2 : ∀ i ∈ vs1, i ∈ own.map (·.2) := by decide) (hs : ∀ x, foldedSetIterable iter X.env x = pure x := by intro _; rfl) (hs1 : ∀ env x, foldedSetIterable iter1 env x = pure x := by intro _ _; rfl) :
    PE X (.ListComp elt [⟨tg, iter, ifs, 0⟩, ⟨tg1, iter1, ifs1, 0⟩] scope pos) (upF G (wLc2 wi g wt wi1 g1 wt1 we (own.map (·.2)) vs1)) := pe_weak (pe_lc2 hc hN hi ok hv2 hg ht hi1 hg1 ht1 he hs hs1) (up_lc2 hv hv1 hv2)
end
end DL

namespace DL
open PySem PySem.Spec PyProof.Rows L2

def wYes : WT := fun _ Φ => Φ true
def wCt : WS := fun W ρ => W.ct ρ
def wNever : WS := fun _ _ => False
section
variable {X : Cx} {G : Gx} {s : Bool} {e : Expr} {we : WE} {pos : Pos}
theorem call_minU (hc : X.calm = true) : CallR X (.builtin "min") (fun vs H Q => (∃ i j, vs = [.int i, .int j] ∧ Q (.int (if j < i then j else i)) H) ∨ rMin X.K vs H Q) := callR_or (call_min2 hc) (cr_min hc)
theorem call_maxU (hc : X.calm = true) : CallR X (.builtin "max") (fun vs H Q => (∃ i j, vs = [.int i, .int j] ∧ Q (.int (if j > i then j else i)) H) ∨ rMax X.K vs H Q) := callR_or (call_max2 hc) (cr_max hc)
/-- a module's constant -/
structure Cst (mg : Str → Option Value) (x : Str) (d : PyData) : Prop where
  ex : ∃ (u : Value) (v : V), mg x = some u ∧ RelV v u ∧ ∀ (W : Wd) (N : Addr → Prop) (H : Hp), Im W N H d v
theorem Cst.rule {x : Str} {d : PyData} (c : Cst X.mg x d) (hg : Gl X x) (hdb : (x == ("__debug__" : Str)) = false := by decide) : PE X (.Name x pos) (up G s (wC d)) := by
  obtain ⟨u, v, h1, h2, h3⟩ := c.ex
  exact de_glob hg h1 h2 (fun N H => h3 _ N H) hdb
theorem Cst.int {mg : Str → Option Value} {x : Str} {i : Int} {t : Tok} (h : mg x = some (.int i t)) : Cst mg x (.int i) := ⟨_, .int i, h, ⟨t, rfl⟩, fun _ _ _ => rfl⟩
theorem Cst.str {mg : Str → Option Value} {x : Str} {i : Str} {t : Tok} (h : mg x = some (.str i t)) : Cst mg x (.str i) := ⟨_, .str i, h, ⟨t, rfl⟩, fun _ _ _ => rfl⟩
end
end DL

namespace DL
open PySem PySem.Spec PyProof.Rows L2

theorem sq {w1 w2 : WS} {W : WX} {ρ : Ev} (h : w1 { W with nx := fun ρ2 => w2 W ρ2 } ρ) : wSq w1 w2 W ρ := h
/-- a comprehension that maps -/
theorem lc_map {wi : WI} {g : WG} {we : WE} {vs : List Nat} {ρ : Ev} {ds : List PyData} (f : PyData → PyData) {Φ : List PyData → Prop} (hn : noOwn ρ vs = true) (hi : ∀ Ψ, Ψ ds → wi ρ Ψ) (hl : ds.length ≤ 100000)
    (h : ∀ d ∈ ds, ∀ Ψ : PyData → Prop, Ψ (f d) → g d (wipeE ρ vs) fun ρ2 => we ρ2 Ψ) (q : Φ (ds.map f)) : wLc wi g wYes we vs ρ Φ := by
  refine ⟨hn, hi _ ⟨fun i acc => acc = (ds.take i).map f, rfl, fun i d acc hd ha hl2 => ?_, fun acc ha => ?_⟩⟩
  · have hi : i < ds.length := (List.getElem?_eq_some_iff.mp hd).1
    have hdi : ds[i] = d := (List.getElem?_eq_some_iff.mp hd).2
    refine h d (List.mem_of_getElem? hd) _ ⟨?_, ?_⟩
    · rw [ha, List.length_map, List.length_take]; omega
    · show acc ++ [f d] = (ds.take (i + 1)).map f
      rw [List.take_succ_eq_append_getElem hi, List.map_append, hdi, ha]; rfl
  · rw [ha, List.take_length]; exact q
/-- a comprehension with a test -/
theorem lc_filter {wi : WI} {g : WG} {wt : WT} {we : WE} {vs : List Nat} {ρ : Ev} {ds : List PyData} (p : PyData → Bool) (f : PyData → PyData) {Φ : List PyData → Prop} (hn : noOwn ρ vs = true) (hi : ∀ Ψ, Ψ ds → wi ρ Ψ) (hl : ds.length ≤ 100000)
    (h : ∀ d ∈ ds, ∀ (Ψ : PyData → Prop) (Θ : Prop), (p d = true → Ψ (f d)) → (p d = false → Θ) → g d (wipeE ρ vs) fun ρ2 => wt ρ2 fun b => if b = true then we ρ2 Ψ else Θ) (q : Φ ((ds.filter p).map f)) : wLc wi g wt we vs ρ Φ := by
  refine ⟨hn, hi _ ⟨fun i acc => acc = ((ds.take i).filter p).map f, rfl, fun i d acc hd ha hl2 => ?_, fun acc ha => ?_⟩⟩
  · have hi : i < ds.length := (List.getElem?_eq_some_iff.mp hd).1
    have hdi : ds[i] = d := (List.getElem?_eq_some_iff.mp hd).2
    refine h d (List.mem_of_getElem? hd) _ _ (fun hp => ⟨?_, ?_⟩) fun hp => ?_
    · have l1 : acc.length ≤ i := by rw [ha, List.length_map]; exact Nat.le_trans (List.length_filter_le _ _) (by rw [List.length_take]; omega)
      omega
    · show acc ++ [f d] = ((ds.take (i + 1)).filter p).map f
      rw [List.take_succ_eq_append_getElem hi, List.filter_append, List.map_append, hdi, List.filter_cons_of_pos hp, ha]; rfl
    · show acc = ((ds.take (i + 1)).filter p).map f
      rw [List.take_succ_eq_append_getElem hi, List.filter_append, hdi, List.filter_cons_of_neg (by rw [hp]; exact Bool.false_ne_true), ha]; simp
  · rw [ha, List.take_length]; exact q
/-- a comprehension whose elements are any that satisfy R (draws) -/
theorem lc_any {wi : WI} {g : WG} {we : WE} {vs : List Nat} {ρ : Ev} {ds : List PyData} (R : Nat → PyData → Prop) {Φ : List PyData → Prop} (hn : noOwn ρ vs = true) (hi : ∀ Ψ, Ψ ds → wi ρ Ψ) (hl : ds.length ≤ 100000)
    (h : ∀ i d, ds[i]? = some d → ∀ Ψ : PyData → Prop, (∀ y, R i y → Ψ y) → g d (wipeE ρ vs) fun ρ2 => we ρ2 Ψ) (q : ∀ ys : List PyData, ys.length = ds.length → (∀ i y, ys[i]? = some y → R i y) → Φ ys) : wLc wi g wYes we vs ρ Φ := by
  refine ⟨hn, hi _ ⟨fun i acc => acc.length = min i ds.length ∧ ∀ j y, acc[j]? = some y → R j y, ⟨by simp, fun j y e => by simp at e⟩, fun i d acc hd ha hl2 => ?_, fun acc ha => ?_⟩⟩
  · have hi : i < ds.length := (List.getElem?_eq_some_iff.mp hd).1
    refine h i d hd _ fun y hy => ⟨?_, ?_, fun j z hz => ?_⟩
    · rw [ha.1]; omega
    · rw [List.length_append, ha.1]; simp; omega
    · by_cases e : j < acc.length
      · rw [List.getElem?_append_left e] at hz
        exact ha.2 j z hz
      · rw [List.getElem?_append_right (by omega)] at hz
        have e2 : j - acc.length = 0 := by
          cases q : j - acc.length with
          | zero => rfl
          | succ n => rw [q] at hz; simp at hz
        rw [e2] at hz
        have e3 : y = z := by simpa using hz
        have e4 : j = i := by rw [ha.1] at e e2; omega
        rw [e4, ← e3]; exact hy
  · exact q acc (by rw [ha.1]; simp) ha.2
/-- the truth of all, of any, over what a comprehension makes -/
theorem map_bools {α : Type} (ds : List α) (p : α → Bool) : ds.map (fun x => PyData.bool (p x)) = (ds.map p).map .bool := by rw [List.map_map]; rfl
/-- a for that goes through -/
theorem for_all {wi : WI} {g : WG} {wb : WS} {W : WX} {ρ : Ev} {ds : List PyData} (J : Nat → Ev → Prop) (hi : ∀ Ψ, Ψ ds → wi ρ Ψ) (h0 : J 0 ρ)
    (h : ∀ i d ρ2, ds[i]? = some d → J i ρ2 → g d ρ2 fun ρ3 => wb { W with nx := fun ρ4 => J (i + 1) ρ4, ct := fun ρ4 => J (i + 1) ρ4, bk := W.nx } ρ3) (q : ∀ ρ2, J ds.length ρ2 → W.nx ρ2) : wFor wi g wb W ρ := hi _ ⟨J, h0, h, q⟩
mutual
def noB : PyData → Bool
  | .bool _ => false
  | .dict _ => false
  | .list xs => noBA xs
  | .tuple xs => noBA xs
  | _ => true
def noBA : List PyData → Bool
  | [] => true
  | x :: xs => noB x && noBA xs
end
mutual
theorem eqv_iff : ∀ (d e : PyData), noB d = true → noB e = true → (PyData.eqv d e = true ↔ d = e)
  | .none, .none, _, _ => by simp [PyData.eqv]
  | .int i, .int j, _, _ => by simp [PyData.eqv]
  | .str i, .str j, _, _ => by simp [PyData.eqv]
  | .list xs, .list ys, h, k => by
    simp only [PyData.eqv, PyData.list.injEq]
    exact eqvA_iff xs ys (by simpa [noB] using h) (by simpa [noB] using k)
  | .tuple xs, .tuple ys, h, k => by
    simp only [PyData.eqv, PyData.tuple.injEq]
    exact eqvA_iff xs ys (by simpa [noB] using h) (by simpa [noB] using k)
  | .bool _, _, h, _ => by simp [noB] at h
  | .dict _, _, h, _ => by simp [noB] at h
  | _, .bool _, _, h => by simp [noB] at h
  | _, .dict _, _, h => by simp [noB] at h
  | .none, .int _, _, _ | .none, .str _, _, _ | .none, .list _, _, _ | .none, .tuple _, _, _ => by simp [PyData.eqv]
  | .int _, .none, _, _ | .int _, .str _, _, _ | .int _, .list _, _, _ | .int _, .tuple _, _, _ => by simp [PyData.eqv]
  | .str _, .none, _, _ | .str _, .int _, _, _ | .str _, .list _, _, _ | .str _, .tuple _, _, _ => by simp [PyData.eqv]
  | .list _, .none, _, _ | .list _, .int _, _, _ | .list _, .str _, _, _ | .list _, .tuple _, _, _ => by simp [PyData.eqv]
  | .tuple _, .none, _, _ | .tuple _, .int _, _, _ | .tuple _, .str _, _, _ | .tuple _, .list _, _, _ => by simp [PyData.eqv]
theorem eqvA_iff : ∀ (d e : List PyData), noBA d = true → noBA e = true → (PyData.eqvAll d e = true ↔ d = e)
  | [], [], _, _ => by simp [PyData.eqvAll]
  | x :: xs, y :: ys, h, k => by
    have h2 : noB x = true ∧ noBA xs = true := by simpa [noBA, Bool.and_eq_true] using h
    have k2 : noB y = true ∧ noBA ys = true := by simpa [noBA, Bool.and_eq_true] using k
    simp only [PyData.eqvAll, Bool.and_eq_true, List.cons.injEq]
    rw [eqv_iff x y h2.1 k2.1, eqvA_iff xs ys h2.2 k2.2]
  | [], _ :: _, _, _ => by simp [PyData.eqvAll]
  | _ :: _, [], _, _ => by simp [PyData.eqvAll]
end
theorem noBA_iff : ∀ {xs : List PyData}, noBA xs = true ↔ ∀ x ∈ xs, noB x = true
  | [] => by simp [noBA]
  | x :: xs => by simp [noBA, Bool.and_eq_true, noBA_iff (xs := xs)]
theorem eqv_self {d : PyData} (h : noB d = true) : PyData.eqv d d = true := (eqv_iff d d h h).mpr rfl
/-- x in a list of such -/
theorem memD_iff {d : PyData} {xs : List PyData} (h : noB d = true) (k : ∀ x ∈ xs, noB x = true) : memD d xs = true ↔ d ∈ xs := by
  unfold memD
  rw [List.any_eq_true]
  constructor
  · rintro ⟨x, hx, e⟩
    rw [(eqv_iff x d (k x hx) h).mp e] at hx
    exact hx
  · intro hx
    exact ⟨d, hx, eqv_self h⟩
/-- how deep: lists of data that are n deep -/
theorem fit_tuple {xs : List PyData} {n : Nat} (h : ∀ x ∈ xs, dOk n x = true) : dOk (n + 1) (.tuple xs) = true := by
  simp only [dOk]
  exact dOkA_iff.mpr h
theorem fit_list {xs : List PyData} {n : Nat} (h : ∀ x ∈ xs, dOk n x = true) : dOk (n + 1) (.list xs) = true := by
  simp only [dOk]
  exact dOkA_iff.mpr h
mutual
theorem dOk_mono : ∀ (n m : Nat) (d : PyData), n ≤ m → dOk n d = true → dOk m d = true
  | n, m, .none, _, _ => by cases m <;> simp [dOk]
  | n, m, .bool _, _, _ => by cases m <;> simp [dOk]
  | n, m, .int _, _, _ => by cases m <;> simp [dOk]
  | n, m, .str x, _, h => by cases n <;> cases m <;> simpa [dOk] using h
  | 0, m, .list _, _, h => by simp [dOk] at h
  | 0, m, .tuple _, _, h => by simp [dOk] at h
  | n + 1, 0, .list ds, l, h => by omega
  | n + 1, 0, .tuple ds, l, h => by omega
  | n + 1, m + 1, .list ds, l, h => by simp only [dOk] at h ⊢; exact dOkA_mono n m ds (by omega) h
  | n + 1, m + 1, .tuple ds, l, h => by simp only [dOk] at h ⊢; exact dOkA_mono n m ds (by omega) h
  | n, m, .dict _, _, h => by cases n <;> simp [dOk] at h
theorem dOkA_mono : ∀ (n m : Nat) (ds : List PyData), n ≤ m → dOkA n ds = true → dOkA m ds = true
  | n, m, [], _, _ => rfl
  | n, m, d :: ds, l, h => by
    have h2 : dOk n d = true ∧ dOkA n ds = true := by simpa [dOkA, Bool.and_eq_true] using h
    simp only [dOkA, Bool.and_eq_true]
    exact ⟨dOk_mono n m d l h2.1, dOkA_mono n m ds l h2.2⟩
end
theorem fit_of {n : Nat} {d : PyData} (h : dOk n d = true) (hn : n ≤ 20 := by decide) : Fit d := dOk_mono n 20 d hn h
/-- parts of lists -/
theorem cutG_none {α : Type} {xs : List α} {i : Nat} (h : i ≤ xs.length) : cutG xs none (some (i : Int)) = xs.take i := by
  unfold cutG
  rw [HT.sIx_none, HT.sIx_nat, Nat.sub_zero, List.drop_zero, Nat.min_eq_left h]
theorem cutG_some {α : Type} {xs : List α} {i : Nat} : cutG xs (some (i : Int)) none = xs.drop i := by
  unfold cutG
  rw [HT.sIx_none, HT.sIx_nat]
  by_cases h : i ≤ xs.length
  · rw [Nat.min_eq_left h, List.take_of_length_le]
    rw [List.length_drop]
    exact Nat.le_refl _
  · rw [Nat.min_eq_right (by omega), List.drop_length, List.drop_eq_nil_of_le (by omega), List.take_nil]
theorem fNe_i {x y : PyData} {Φ : PyData → Prop} (h1 : Fit x) (h2 : Fit y) (q : Φ (.bool (!PyData.eqv x y))) : fNe x y Φ := by
  unfold fNe
  split
  · rename_i a b
    have e : PyData.eqv (.str a) (.str b) = decide (a = b) := by
      simp only [PyData.eqv]
      by_cases h : a = b <;> simp [h]
    rw [e] at q
    exact q
  · exact ⟨h1, h2, q⟩
theorem fEq_i {x y : PyData} {Φ : PyData → Prop} (h1 : Fit x) (h2 : Fit y) (q : Φ (.bool (PyData.eqv x y))) : fEq x y Φ := by
  unfold fEq
  split
  · rename_i a b
    have e : PyData.eqv (.str a) (.str b) = decide (a = b) := by
      simp only [PyData.eqv]
      by_cases h : a = b <;> simp [h]
    rw [e] at q
    exact q
  · exact ⟨h1, h2, q⟩
theorem shownAll_map : ∀ xs : List PyData, PyData.shownAll xs = xs.map PyData.shown
  | [] => by simp [PyData.shownAll]
  | x :: xs => by simp [PyData.shownAll, shownAll_map xs]
theorem showableAll_iff : ∀ {xs : List PyData}, PyData.showableAll xs = true ↔ ∀ x ∈ xs, x.showable = true
  | [] => by simp [PyData.showableAll]
  | x :: xs => by simp [PyData.showableAll, Bool.and_eq_true, showableAll_iff (xs := xs)]
theorem piled_le {m : Nat} : ∀ {ts : List Str}, (∀ t ∈ ts, t.length ≤ m) → piled ts ≤ ts.length * (m + 2)
  | [], _ => by simp [piled]
  | t :: ts, h => by
    have ih := piled_le (ts := ts) fun x hx => h x (List.mem_cons_of_mem _ hx)
    have h1 := h t List.mem_cons_self
    have e : piled (t :: ts) = t.length + 2 + piled ts := by simp [piled]
    rw [e, List.length_cons, Nat.add_one_mul]
    omega
theorem Str.len_append (a b : Str) : (a ++ b).length = a.length + b.length := by
  show (a.cps ++ b.cps).size = _
  rw [Array.size_append]
  rfl
theorem shown_tuple {xs : List PyData} {m : Nat} (h : ∀ x ∈ xs, x.showable = true ∧ x.shown.length ≤ m) : (PyData.tuple xs).showable = true ∧ (PyData.tuple xs).shown.length ≤ xs.length * (m + 2) + 3 := by
  refine ⟨by simp only [PyData.showable]; exact showableAll_iff.mpr fun x hx => (h x hx).1, ?_⟩
  simp only [PyData.shown]
  rw [shownAll_map]
  have p := piled_le (m := m) (ts := xs.map PyData.shown) fun t ht => by
    obtain ⟨x, hx, rfl⟩ := List.mem_map.mp ht
    exact (h x hx).2
  rw [List.length_map] at p
  unfold tupleText
  rw [Str.len_append, Str.len_append]
  have j : (Str.join ", " (xs.map PyData.shown)).length ≤ xs.length * (m + 2) := by
    cases xs with
    | nil => exact Nat.zero_le _
    | cons x r =>
      have := join_length_add ((x :: r).map PyData.shown) (by simp)
      omega
  have e1 : (("(" : Str)).length = 1 := rfl
  have e2 : (((if (xs.map PyData.shown).length == 1 then ",)" else ")" : String) : Str)).length ≤ 2 := by split <;> decide
  omega
theorem shown_none : PyData.none.showable = true ∧ PyData.none.shown.length ≤ 4 := ⟨rfl, by decide⟩
theorem shown_int {i : Int} {k : Nat} (h : i.natAbs < 2 ^ k) (hk : 0 < k) (hk2 : k ≤ 1920) : (PyData.int i).showable = true ∧ (PyData.int i).shown.length ≤ k + 1 := by
  have l := PySem.Flt.log2_lt_of hk h
  refine ⟨by simp only [PyData.showable]; exact decide_eq_true (by omega), ?_⟩
  simp only [PyData.shown]
  have q := int_text_length_le hk l
  have e : ((toString i : String) : Str).length = (toString i).length := PySem.ofString_length _
  omega
/-- a comprehension whose test is drawn: some of them, in their order -/
theorem lc_some {wi : WI} {g : WG} {wt : WT} {we : WE} {vs : List Nat} {ρ : Ev} {ds : List PyData} {Φ : List PyData → Prop} (hn : noOwn ρ vs = true) (hi : ∀ Ψ, Ψ ds → wi ρ Ψ) (hl : ds.length ≤ 100000)
    (h : ∀ d ∈ ds, ∀ (Ψ : PyData → Prop) (Θ : Prop), Ψ d → Θ → g d (wipeE ρ vs) fun ρ2 => wt ρ2 fun b => if b = true then we ρ2 Ψ else Θ) (q : ∀ ys, ys.Sublist ds → Φ ys) : wLc wi g wt we vs ρ Φ := by
  refine ⟨hn, hi _ ⟨fun i acc => acc.Sublist (ds.take i), List.Sublist.refl _, fun i d acc hd ha hl2 => ?_, fun acc ha => ?_⟩⟩
  · have hi : i < ds.length := (List.getElem?_eq_some_iff.mp hd).1
    have hdi : ds[i] = d := (List.getElem?_eq_some_iff.mp hd).2
    have tk : ds.take (i + 1) = ds.take i ++ [d] := by rw [List.take_succ_eq_append_getElem hi, hdi]
    refine h d (List.mem_of_getElem? hd) _ _ ⟨?_, ?_⟩ ?_
    · have := ha.length_le
      rw [List.length_take] at this
      omega
    · show (acc ++ [d]).Sublist (ds.take (i + 1))
      rw [tk]
      exact ha.append (List.Sublist.refl _)
    · show acc.Sublist (ds.take (i + 1))
      rw [tk]
      exact ha.trans (List.sublist_append_left _ _)
  · refine q acc ?_
    have ha : acc.Sublist (ds.take ds.length) := ha
    rw [List.take_length] at ha
    exact ha
end DL

namespace DL
open PySem PySem.Spec PyProof.Rows L2

/-- the drawn state: at b a list of the list at c (amounts not below 0) and one amount -/
def drw (b c : Addr) : Res where
  M := fun a => a = b ∨ a = c
  I := fun H => b ≠ c ∧ ∃ (ks : List Int) (k : Int), H b = some (.lst [.ref c, .int k]) ∧ H c = some (.lst (ks.map .int)) ∧ (∀ x ∈ ks, 0 ≤ x) ∧ ks.length ≤ 1000 ∧ 0 ≤ k ∧ k < 2147483647
  b := b
  st := fun H H' ⟨n, ks, k, h1, h2, h3, h4⟩ q => ⟨n, ks, k, q b _ (.inl (.inl rfl)) h1, q c _ (.inl (.inr rfl)) h2, h3, h4⟩
  al := fun H a ⟨_, ks, k, h1, h2, _⟩ m => m.elim (fun e => ⟨_, e ▸ h1⟩) (fun e => ⟨_, e ▸ h2⟩)
theorem dpInts {K : PySem.W.Frag} {H : Hp} : ∀ ks : List Int, DpAll K H (ks.map V.int) (ks.map PyData.int)
  | [] => .nil
  | k :: ks => .cons (.int k) (dpInts ks)
theorem shInts (ks : List Int) : SeqAt.shaped (.list (ks.map PyData.int)) = true :=
  dOk.shaped (n := 2) (by show dOkA 1 _ = true; rw [dOkA_iff]; intro d hd; obtain ⟨i, _, rfl⟩ := List.mem_map.mp hd; rfl)
theorem eqvNil (ks : List Int) : PyData.eqv (.list (ks.map PyData.int)) (.list []) = ks.isEmpty := by
  cases ks <;> rfl
structure Dr (b c : Addr) (H0 H : Hp) (ks : List Int) (k : Int) : Prop where
  kp : Keep (drw b c).M H0 H
  ne : b ≠ c
  hb : H b = some (.lst [.ref c, .int k])
  hc : H c = some (.lst (ks.map .int))
  nn : ∀ x ∈ ks, 0 ≤ x
  few : ks.length ≤ 1000
  k0 : 0 ≤ k
  k1 : k < 2147483647
theorem Dr.I {b c : Addr} {H0 H : Hp} {ks : List Int} {k : Int} (D : Dr b c H0 H ks k) : (drw b c).I H := ⟨D.ne, ks, k, D.hb, D.hc, D.nn, D.few, D.k0, D.k1⟩
theorem Dr.new {b c : Addr} {H0 H : Hp} {ks : List Int} {k : Int} (D : Dr b c H0 H ks k) {p : Addr} {o : HO} (hp : H p = none) : Dr b c H0 (upd H p o) ks k :=
  ⟨D.kp.trans (Keep.new hp), D.ne, by rw [upd_ne (ne_of_none D.hb hp)]; exact D.hb, by rw [upd_ne (ne_of_none D.hc hp)]; exact D.hc, D.nn, D.few, D.k0, D.k1⟩
theorem Dr.setc {b c : Addr} {H0 H : Hp} {ks : List Int} {k : Int} (D : Dr b c H0 H ks k) (ks' : List Int) (nn : ∀ x ∈ ks', 0 ≤ x) (few : ks'.length ≤ 1000) {xs : List V} (e : xs = ks'.map .int) : Dr b c H0 (upd H c (.lst xs)) ks' k :=
  ⟨D.kp.trans (Keep.set D.hc (.inr rfl)), D.ne, by rw [upd_ne D.ne]; exact D.hb, by rw [upd_same, e], nn, few, D.k0, D.k1⟩
theorem Dr.setb {b c : Addr} {H0 H : Hp} {ks : List Int} {k : Int} (D : Dr b c H0 H ks k) (k' : Int) (k0 : 0 ≤ k') (k1 : k' < 2147483647) : Dr b c H0 (upd H b (.lst [.ref c, .int k'])) ks k' :=
  ⟨D.kp.trans (Keep.set D.hb (.inl rfl)), D.ne, by rw [upd_same], by rw [upd_ne (Ne.symm D.ne)]; exact D.hc, D.nn, D.few, k0, k1⟩
theorem lastInt (l : List Int) (x : Int) : ((l ++ [x]).map V.int)[((l ++ [x]).map V.int).length - 1]? = some (.int x) := by
  rw [List.map_append, List.length_append, List.map_singleton, List.length_singleton, Nat.add_sub_cancel, List.getElem?_append_right (Nat.le_refl _), Nat.sub_self]; rfl
theorem dropInt (l : List Int) (x : Int) : ((l ++ [x]).map V.int).dropLast = l.map V.int := by
  rw [List.map_append, List.map_singleton, List.dropLast_concat]
/-- one amount drawn, below the argument -/
def F_draw : FD := fun ds Φ => ∃ k : Int, ds = [.int k] ∧ 0 < k ∧ k < 1073741824 ∧ ∀ r, 0 ≤ r → r < k → Φ (.int r)

def wRev (we : WE) : WE := fun ρ Φ => we ρ fun d => match d with | .list xs => Φ (.list xs.reverse) | _ => False
theorem ImA.rev {W : Wd} {N : Addr → Prop} {H : Hp} : ∀ {ds : List PyData} {vs : List V}, ImA W N H ds vs → ImA W N H ds.reverse vs.reverse
  | [], _, h => by cases h; rfl
  | d :: ds, _, h => by
    obtain ⟨v, r, rfl, q1, q2⟩ := h
    rw [List.reverse_cons, List.reverse_cons]
    exact ImA.append (ImA.rev q2) (ImA.one q1)
theorem de_rev {X : Cx} {G : Gx} {s : Bool} {e : Expr} {we : WE} {k : Nat} {p1 p2 p3 pos : Pos} (hK : X.K = G.W.K) (h : PE X e (up G s we)) : PE X (.Subscript e (.Slice none none (some (.UnaryOp .USub (.Constant (.int 1) k p1) p2)) p3) pos) (up G s (wRev we)) :=
  pe_weak (pe_revL h) fun σ H Q ⟨an, O, ρ, Φ, S, h, q⟩ => by
    refine ⟨an, O, ρ, _, S, h, fun v H1 d h1 im k1 i1 => ?_⟩
    cases d with
    | list xs =>
      obtain ⟨a, vs, rfl, r, n, m⟩ := im
      have S1 := S.keep k1 i1
      exact ⟨a, vs, rfl, .inl (.inl r), fun p hp => q _ _ _ h1 (S1.lst hp (ImA.rev m)) (k1.trans (Keep.new hp)) (S1.newI hp)⟩
    | _ => exact h1.elim

def spS (W : Wd) (F : List Int → (PyData → Prop) → Prop) : Sp := fun vs H Q _ => ∃ (a : Addr) (N : Addr → Prop) (ns : List Int) (Φ : PyData → Prop), vs = [.ref a] ∧ SqS W.K H a (ns.map V.int) ∧ (∀ a, N a → ∃ o, H a = some o) ∧ F ns Φ ∧
  ∀ v H' d, Φ d → Im W N H' d v → Keep (fun _ => False) H H' → Q v H'
def evS (n : Nat) (ns : List Int) : Ev := .s ns :: List.replicate (n - 1) .u
def evS1 (n : Nat) (ns : List Int) : Ev := .s ns :: .m :: List.replicate (n - 2) .u
theorem sta_startS {G : Gx} {ns : List Str} {is : List Int} {a : Addr} (hl : 1 ≤ ns.length) (hI : G.R.I G.H0) (al : ∀ a, G.A a → ∃ o, G.H0 a = some o) (ra : ∀ a, G.R.M a → G.A a) (hs : SqS G.W.K G.H0 a (is.map V.int)) :
    Sta G [] (fun _ => none) (start ns [.ref a]) G.H0 (evS ns.length is) := by
  refine ⟨hI, Keep.refl _, al, ra, fun i p e => (nomatch e), fun i j p e => (nomatch e), ⟨0, fun _ _ => rfl⟩, fun i p e => (nomatch e), ?_, fun i => ?_, fun p hp => (nomatch hp)⟩
  · unfold L2.start evS
    simp only [List.length_append, List.length_map, List.length_replicate, List.length_cons, List.length_nil]
    omega
  · cases i with
    | zero => exact ⟨a, rfl, hs⟩
    | succ i =>
      rw [nth_ev]
      unfold evS
      rw [List.getElem?_cons_succ, List.getElem?_replicate]
      split <;> trivial
/-- the law's own frame, once the drawn state stands in slot 1 -/
theorem sta_law {G : Gx} {σ : L2.St} {n : Nat} {is : List Int} {a : Addr} (hn : 2 ≤ n) (hσ : σ.length = n) (h0 : σ[0]? = some (some (.ref a))) (h1 : σ[1]? = some (some (.ref G.R.b))) (hI : G.R.I G.H0) (al : ∀ a, G.A a → ∃ o, G.H0 a = some o) (ra : ∀ a, G.R.M a → G.A a) (hs : SqS G.W.K G.H0 a (is.map V.int)) :
    Sta G [] (fun _ => none) σ G.H0 (evS1 n is) := by
  refine ⟨hI, Keep.refl _, al, ra, fun i p e => (nomatch e), fun i j p e => (nomatch e), ⟨0, fun _ _ => rfl⟩, fun i p e => (nomatch e), ?_, fun i => ?_, fun p hp => (nomatch hp)⟩
  · unfold evS1
    simp only [List.length_replicate, List.length_cons]
    omega
  · match i with
    | 0 => exact ⟨a, h0, hs⟩
    | 1 => exact h1
    | i + 2 =>
      rw [nth_ev]
      unfold evS1
      rw [List.getElem?_cons_succ, List.getElem?_cons_succ, List.getElem?_replicate]
      split <;> trivial
section
variable {P : Program} {w : World} {mg : Str → Option Value} {base : Heap} {W : Wd} {k : Nat} {f : Addr} {fd : FuncData} {N : List Str} {x p qual : Str} {st : Stmt} {F : List Int → (PyData → Prop) → Prop}
theorem ok_script (Fn : Fun W.K x qual st f fd) (S : FnScope N [p] (defScope st)) (hn : 1 ≤ N.length)
    (body : ∀ (cdv : Value) (A : Around) (env : List Env) (s : Shared) (H : Hp) (E : XK) (N0 : Addr → Prop), Rg k (A.deeper (envOfC qual (defScope st) s.heap.objs.size f cdv)) →
      ∃ ws, PSs (cxOf CX0 P w W.K mg base N qual (defScope st) f cdv A env s H E).nox (defBody st) (upS ⟨W, Res.none, N0, H⟩ ws) ∧ ∀ ns Φ, F ns Φ → ws (retX Φ) (evS N.length ns)) :
    FnG P w W.K mg base CX0 (k + 1) f fd [p] (spS W F) := by
  refine FnG.mk' Fn S (fun vs H Q E h => ?_) fun cdv A env s H vs Q E hr h => ?_
  · obtain ⟨a, N', ns, Φ, rfl, _⟩ := h
    rfl
  · obtain ⟨a, N', ns, Φ, rfl, hs, al, hF, q⟩ := h
    obtain ⟨ws, pt, hw⟩ := body cdv A env s H E N' hr
    refine ⟨_, pt.nox, [], _, _, retX Φ, sta_startS (G := ⟨W, Res.none, N', H⟩) hn True.intro al (fun a z => z.elim) hs, hw ns Φ hF, ?_, ?_, ?_, ?_⟩
    · exact fun O2 σ2 H2 ρ2 S2 z => q .non H2 .none z rfl S2.kp
    · exact fun v H2 d z m kk _ => q v H2 d z m kk
    · exact fun O2 σ2 H2 ρ2 S2 z => z
    · exact fun O2 σ2 H2 ρ2 S2 z => z
end
theorem pss_ex {X : Cx} {sts : List Stmt} {ι : Type} {t : ι → TS} (h : ∀ i, PSs X sts (t i)) : PSs X sts (fun D σ H => ∃ i, t i D σ H) := ⟨fun pins s σ H D I ⟨i, q⟩ => (h i).run pins s σ H D I q⟩

/-- what _law_heap gives back: data, with the amounts' bounds -/
def HeapOk (d : PyData) : Prop := ∃ (ks : List Int) (k : Int), d = .list [.list (ks.map .int), .int k] ∧ (∀ x ∈ ks, 0 ≤ x) ∧ ks.length ≤ 1000 ∧ 0 ≤ k ∧ k < 2147483647
theorem heap_made {W : Wd} {H H' : Hp} {d : PyData} {v : V} (h : HeapOk d) (im : Im W (fun a => ∃ o, H a = some o) H' d v) : ∃ b c, v = .ref b ∧ (drw b c).I H' ∧ H b = none ∧ H c = none := by
  obtain ⟨ks, k, rfl, h1, h2, h3, h4⟩ := h
  obtain ⟨b, xs, rfl, e1, n1, m1⟩ := im
  obtain ⟨v1, r1, rfl, m2, m3⟩ := m1
  obtain ⟨v2, r2, rfl, m4, m5⟩ := m3
  obtain rfl : r2 = [] := m5
  obtain rfl : v2 = .int k := m4
  obtain ⟨c, ys, rfl, e2, n2, m6⟩ := m2
  obtain rfl := ImA.ints m6
  have nn : ∀ {a : Addr}, ¬ (∃ o, H a = some o) → H a = none := fun {a} n => by
    cases q : H a with
    | none => rfl
    | some o => exact absurd ⟨o, q⟩ n
  refine ⟨b, c, rfl, ⟨fun e => ?_, ks, k, e1, e2, h1, h2, h3, h4⟩, nn n1, nn n2⟩
  subst e
  rw [e1] at e2
  injection e2 with e2
  injection e2 with e2
  cases ks with
  | nil => cases e2
  | cons x r => injection e2 with z _; cases z

/-- the instance that is being made -/
def ownR (x C dx : Addr) : Res where
  M := fun a => a = x
  I := fun H => H x = some (.ins C dx [])
  b := x
  st := fun H H' h q => q x _ (.inl rfl) h
  al := fun H a h m => ⟨_, (show a = x from m) ▸ h⟩
abbrev FI := List PyData → (List (PyData × PyData) → Prop) → Prop
def spI (W : Wd) (C : Addr) (n : Nat) (F : FI) : Sp := fun vs H Q _ => ∃ (x dx : Addr) (vs' : List V) (N : Addr → Prop) (ds : List PyData) (Φ : List (PyData × PyData) → Prop), vs = .ref x :: vs' ∧ vs.length = n ∧ H x = some (.ins C dx []) ∧ N x ∧
  (∀ a, N a → ∃ o, H a = some o) ∧ ImA W N H ds vs' ∧ F ds Φ ∧ ∀ fs H' kvs, Φ kvs → H' x = some (.ins C dx fs) → ImF W N H' kvs fs → Keep (fun a => a = x) H H' → Q .non H'
theorem Rg.make {k : Nat} {A : Around} (r : Rg (k + 1) A) (C : Addr) (us : List Value) (kw : List (Str × Value)) : Rg k (A.under (.builtin "type.__call__" ⟨.ref C :: us, kw⟩)) :=
  ⟨r.room.make C us kw, by
    have e : (Code.builtin "type.__call__" ⟨.ref C :: us, kw⟩).guards = [] := by
      unfold Code.guards
      rw [show (Code.builtin "type.__call__" ⟨.ref C :: us, kw⟩).isGuard = false from rfl]
      rfl
    show pushGuards (Code.builtin "type.__call__" ⟨.ref C :: us, kw⟩).guards A.guards = some []
    rw [e, r.free]
    rfl⟩
section
variable {X : Cx} {G : Gx} {k n : Nat} {f C : Addr} {fd : FuncData} {ps : List Str} {sp : Sp} {x : Str} {e : Expr} {es : List Expr} {t : TA} {p pos : Pos} {CX : CXT} {E : XK} {F : FI} {s : Bool} {wr : WA}
theorem run_makeG {pins : List (Addr × Obj)} {σ : L2.St} {H : Hp} {sh : Shared} {Q : VK} {us : List Value} {vs : List V} (M : Mk X.K C f) (Fn : FnG X.prog X.w X.K X.mg X.base CX k f fd ps sp) (hr : Rg (k + 1) X.A) (hb : Binds X.K fd ps [])
    (hx : Passes CX X E) (I : Inv X pins σ H sh) (r : Vals vs us)
    (h : ∀ x dx, H x = none → H dx = none → dx ≠ x → sp (.ref x :: vs) (upd (upd H dx (.own x)) x (.ins C dx [])) (fun v H2 => v = .non ∧ Q (.ref x) H2) E) :
    wpAny (model X.prog X.w) X.A (call (.ref C) us) (EP X pins σ Q) X.xe sh := by
  have hq := h (sh.heap.objs.size + 1) sh.heap.objs.size (I.hok.fresh (Nat.le_succ _)) (I.hok.fresh (Nat.le_refl _)) (Nat.ne_of_lt (Nat.lt_succ_self _))
  have I2 := Inv.made (C := C) I
  have r2 : Vals (V.ref (sh.heap.objs.size + 1) :: vs) (Value.ref (sh.heap.objs.size + 1) :: us) := .cons rfl r
  have hl : (Value.ref (sh.heap.objs.size + 1) :: us).length = ps.length := by
    have e := r2.length
    rw [Fn.size _ _ _ _ hq] at e
    exact e.symm
  have hb2 := hb _ (Value.ref (sh.heap.objs.size + 1) :: us) I2.kIn (by rw [List.append_nil]; exact hl)
  rw [List.append_nil] at hb2
  refine wpAny_call (make_map (f := f) I.kIn M.makes M.init (beq_iff_eq.mp M.fn) (codeAny_mono (Fn.goes _ X.stack _ _ ⟨Value.ref (sh.heap.objs.size + 1) :: us, []⟩ (Value.ref (sh.heap.objs.size + 1) :: us) _ _ E (hr.make C us [])
    (I2.env0.make C us []) hb2 r2 hq) fun r s' hq' => ?_))
  cases r with
  | error e => exact hx pins σ _ _ e s' I2 hq'
  | ok fl =>
    cases fl with
    | ret u =>
      obtain ⟨v, H', I3, rv, ev, q3⟩ := I2.after hq'
      subst ev
      exact ⟨rv, ⟨V.ref (sh.heap.objs.size + 1), H', I3, rfl, q3⟩⟩
    | next => exact False.elim hq'
    | brk => exact False.elim hq'
    | cont => exact False.elim hq'
theorem pe_makeG (M : Mk X.K C f) (Fn : FnG X.prog X.w X.K X.mg X.base CX k f fd ps sp) (hr : Rg (k + 1) X.A) (hg : Gl X x) (hm : X.mg x = some (.ref C)) (hb : Binds X.K fd ps []) (hx : Passes CX X E)
    (ha : PA X (e :: es) t) (hdb : (x == ("__debug__" : Str)) = false := by decide) (he : starEach (e :: es) X.env = (false, eval e X.env) :: starEach es X.env := by rfl) (hpl : (backTo pos (starEach es X.env)).any (·.1) = false := by rfl) :
    PE X (.Call (.Name x p) (e :: es) [] pos) (fun σ H Q => t σ H fun vs H1 => ∀ x dx, H1 x = none → H1 dx = none → dx ≠ x → sp (.ref x :: vs) (upd (upd H1 dx (.own x)) x (.ins C dx [])) (fun v H2 => v = .non ∧ Q (.ref x) H2) E) := by
  refine ⟨fun pins s σ H Q I h => ?_⟩
  refine wpAny_Call_Name_kw (ld_glob I hg hm ?_ hdb)
  refine PySem.W.callWith_K (h₀ := X.base) I.ok.mod.kin M.kp (thn (ha.run pos pins s σ H _ I h) fun us s1 ⟨vs, H1, I1, r, q⟩ => ⟨I1.kIn, ?_⟩) he hpl
  exact run_makeG M Fn hr hb hx I1 r q
/-- a class of the module whose __init__ keeps a promise -/
structure CalI (P : Program) (w : World) (W : Wd) (mg : Str → Option Value) (base : Heap) (k : Nat) (x : Str) (ks ps : List Str) (F : FI) : Prop where
  ex : ∃ (f : Addr) (fd : FuncData), Mk W.K (W.kc ks) f ∧ mg x = some (.ref (W.kc ks)) ∧ Binds W.K fd ps [] ∧ FnG P w W.K mg base CX0 k f fd ps (spI W (W.kc ks) ps.length F)
def wMake (F : FI) (ks : List Str) (n : Nat) (wr : WA) : WE := fun ρ Φ => wr ρ fun xs => xs.length + 1 = n ∧ F xs fun kvs => namesOf kvs = ks ∧ Φ (.dict kvs)
theorem de_make {ks : List Str} {j : Nat} (Cl : CalI X.prog X.w G.W X.mg X.base k x ks ps F) (hK : X.K = G.W.K) (hr : Rg j X.A) (hkj : k + 1 ≤ j) (hg : Gl X x) (ha : PA X (e :: es) (upA G s wr)) (hn : ps.length = n := by rfl) (hks : ks ≠ [] := by intro z; cases z) (hdb : (x == ("__debug__" : Str)) = false := by decide)
    (he : starEach (e :: es) X.env = (false, eval e X.env) :: starEach es X.env := by rfl) (hpl : (backTo pos (starEach es X.env)).any (·.1) = false := by rfl) :
    PE X (.Call (.Name x p) (e :: es) [] pos) (up G s (wMake F ks n wr)) := by
  subst hn
  obtain ⟨f, fd, M, hm, hb, Fn⟩ := Cl.ex
  rw [← hK] at M hb Fn
  refine pe_weak (pe_makeG (E := fun _ _ _ => False) M Fn (hr.mono hkj) hg hm hb pass0 ha hdb he hpl) fun σ H Q ⟨an, O, ρ, Φ, S, h, q⟩ => ?_
  refine ⟨an, O, ρ, _, S, h, fun vs H1 ds h1 im k1 i1 y dx hy hdx hne => ?_⟩
  have S1 := S.keep k1 i1
  have hy2 : (upd H1 dx (.own y)) y = none := by rw [upd_ne (Ne.symm hne)]; exact hy
  have K2 : ∀ M, Keep M H1 (upd (upd H1 dx (.own y)) y (.ins (G.W.kc ks) dx [])) := fun M => (Keep.new hdx).trans (Keep.new hy2)
  have im2 : ImA G.W (fun a => Nn G O s a ∨ a = y) H1 ds vs := ImA.avoid (fun a o e z => z.elim id fun z => by rw [z, hy] at e; cases e) _ _ im
  refine ⟨y, dx, vs, fun a => Nn G O s a ∨ a = y, ds, _, rfl, ?_, upd_same, .inr rfl, fun a z => ?_, ImA.keep (K2 _) _ _ im2, h1.2, fun fs H3 kvs hk hx3 imf kp => ⟨rfl, ?_⟩⟩
  · rw [List.length_cons, ImA.length im]; exact h1.1
  · rcases z with z | z
    · obtain ⟨o, e1⟩ := S1.there (nn_v z)
      exact ⟨o, (K2 fun _ => False).ob a o e1 id⟩
    · exact ⟨_, by rw [z, upd_same]⟩
  have ob : ∀ a o, H1 a = some o → H3 a = some o := fun a o e1 => kp.ob a o ((K2 fun _ => False).ob a o e1 id) (ne_of_none e1 hy)
  have K3 : Keep G.R.M H1 H3 := ⟨fun a o e1 _ => ob a o e1, fun a xs e1 => ob a _ e1, fun a o u e1 => ob a _ e1⟩
  refine q (.ref y) H3 (.dict kvs) hk.2 (.inl ⟨y, rfl, S1.fresh hy, .inr ⟨fun z => hks (by rw [← hk.1, z]; rfl), dx, fs, ?_, ImF.avoid (fun a o _ z => .inl z) _ _ imf⟩⟩) (k1.trans K3) (G.R.st _ _ i1 fun a o _ e1 => ob a o e1)
  rw [ImF.names imf, hk.1]
  exact hx3
end
theorem sqs_of {K : PySem.W.Frag} {H : Hp} {a : Addr} {xs : List V} (hO : Only H) (h : SqL K H a xs) : SqS K H a xs := by
  rcases h with (h | ⟨o, h⟩) | h
  · rcases hO a with z | ⟨o, ys, z⟩
    · rw [h] at z; cases z
    · rw [h] at z; cases z
  · exact .inl ⟨o, h⟩
  · exact .inr h
/-- the law's promise: true, for each script of at most n numbers -/
def spLaw (K : PySem.W.Frag) (n : Nat) : Sp := fun vs H Q _ => ∃ (a : Addr) (ns : List Int), vs = [.ref a] ∧ SqS K H a (ns.map V.int) ∧ ns.length ≤ n ∧ ∀ H', Q (.bl true) H'
end DL

namespace DL
open PySem PySem.Spec PyProof.Rows L2

/-- the law keeps its promise in whatever heap knows of the script alone -/
theorem law_goes {P : Program} {w : World} {K : PySem.W.Frag} {mg mb : Str → Option Value} {k m : Nat} {g p : Addr} {fd : FuncData} {y : Str} {t : Shared} {us : List Value} {is : List Int}
    (inK : K.In t.heap) (gl : t.heap.Ns mainGlobals mg) (bl : t.heap.Ns builtinsNs mb) (bo : ∀ x : Str, x ≠ "__name__" → mb x = bootBuiltins x) (nl : t.heap.NoLimit) (ge : t.gens = #[])
    (at_ : t.heap.get? p = some { cls := .type "list", data := .seq us.toArray }) (ai : IntsAre us is) (le : is.length ≤ sizeLine) (lm : is.length ≤ m) (rg : Rg k callerA)
    (F : ∀ base : Heap, K.In base → base.Ns mainGlobals mg → FnG P w K mg base CX0 k g fd [y] (spLaw K m)) (bi : ∀ (s : Shared) (u : Value), BindsTo s fd ⟨[u], []⟩ [(y, u)])
    (H : Hp) (only : Only H) (sq : SqL K H p (is.map V.int)) (ok : HOk P w H t.heap) (one : ∀ b, H b ≠ none → b = p) (mine : H p ≠ none → K.lookup p = none) :
    codeAny (model P w) callerA (.call (.ref g) ⟨[.ref p], []⟩) (fun r t' => r = .ok (.ret (.bool true)) ∧ OldK t.heap t'.heap ∧ t'.os = t.os ∧ AllBare t'.gens) t := by
  -- what is no object of H stands in the heap without H
  have keepB : ∀ {b : Addr} {o : Obj}, t.heap.get? b = some o → H b = none → (hidT t.heap H).get? b = some o := fun e1 e2 => hidT_get e1 e2
  have away : ∀ {b : Addr}, b ≠ p → H b = none := fun {b} ne => by
    cases e : H b with
    | none => rfl
    | some v => exact absurd (one b (by rw [e]; simp)) ne
  have dicts : ∀ {b : Addr} {o : Obj} {es : Array DictEntry} {ep : Nat}, t.heap.get? b = some o → o.data = .dict es ep → H b = none := fun {b o es ep} e d => by
    by_cases z : b = p
    · rw [z, at_] at e
      injection e with e
      rw [← e] at d
      cases (show Data.seq us.toArray _ = Data.dict es ep from d)
    · exact away z
  have names : ∀ {b : Addr} {f : Str → Option Value}, t.heap.Ns b f → (hidT t.heap H).Ns b f := fun {b f} ⟨o, es, ep, e1, e2, e3⟩ => ⟨o, es, ep, keepB e1 (dicts e1 e2), e2, e3⟩
  have inB : K.In (hidT t.heap H) := fun b o e => keepB (inK b o e) (by
    by_cases z : b = p
    · cases q : H p with
      | none => rw [z]; exact q
      | some v =>
        have := mine (by rw [q]; simp)
        rw [z, this] at e
        cases e
    · exact away z)
  have md : Mod K mg (hidT t.heap H) := ⟨inB, names gl, ⟨mb, names bl, bo⟩, by obtain ⟨mc, l1, l2⟩ := nl; exact ⟨mc, names l1, l2⟩⟩
  have start : Env0 P w K mg (hidT t.heap H) callerA [] t H := ⟨rfl, md, fun b o e => of_hidT e, Nat.le_of_eq (hidT_size _ _), trivial, fun b hb => (by have z : b ∈ ([] : List Addr) := hb; cases z), ok, .of_eq ge⟩
  have said : spLaw K m [.ref p] H (fun v _ => v = .bl true) (fun _ _ _ => False) := ⟨p, is, rfl, sqs_of only sq, lm, fun _ => rfl⟩
  refine codeAny_mono ((F _ inB (names gl)).goes callerA [] t H ⟨[.ref p], []⟩ [.ref p] [.ref p] _ _ rg start (bi t (.ref p)) (.cons rfl .nil) said) fun res t' h => ?_
  match res, h with
  | .error e, h => exact False.elim h
  | .ok .next, h => exact False.elim h
  | .ok .brk, h => exact False.elim h
  | .ok .cont, h => exact False.elim h
  | .ok (.ret v), h =>
    obtain ⟨x, H2, hos, hbare, un, ok2, rel, isT⟩ := h
    obtain rfl : x = .bl true := isT
    obtain rfl : v = Value.bool true := rel
    refine ⟨rfl, .of_keep fun b o e => ?_, hos, hbare⟩
    rcases only b with q | ⟨ob, xs, q⟩
    · exact un.keep b o e q (by intro z; cases z) (by simp)
    · have q2 := un.frzs b ob _ q
      obtain ⟨e1, _⟩ := ok b _ q
      obtain ⟨e2, _⟩ := ok2 b _ q2
      rw [e1] at e
      injection e with e
      rw [← e]
      exact e2
theorem law_true {P : Program} {w : World} {K : PySem.W.Frag} {mg mb : Str → Option Value} {k m : Nat} {g p : Addr} {fd : FuncData} {y : Str} {t : Shared} {us : List Value} {is : List Int}
    (inK : K.In t.heap) (gl : t.heap.Ns mainGlobals mg) (bl : t.heap.Ns builtinsNs mb) (bo : ∀ x : Str, x ≠ "__name__" → mb x = bootBuiltins x) (nl : t.heap.NoLimit) (ge : t.gens = #[])
    (at_ : t.heap.get? p = some { cls := .type "list", data := .seq us.toArray }) (ai : IntsAre us is) (le : is.length ≤ sizeLine) (lm : is.length ≤ m) (rg : Rg k callerA)
    (F : ∀ base : Heap, K.In base → base.Ns mainGlobals mg → FnG P w K mg base CX0 k g fd [y] (spLaw K m)) (bi : ∀ (s : Shared) (u : Value), BindsTo s fd ⟨[u], []⟩ [(y, u)]) :
    codeAny (model P w) callerA (.call (.ref g) ⟨[.ref p], []⟩) (fun r t' => r = .ok (.ret (.bool true)) ∧ OldK t.heap t'.heap ∧ t'.os = t.os ∧ AllBare t'.gens) t := by
  have vals := vals_ints ai
  have len := ai.length
  have go := law_goes inK gl bl bo nl ge at_ ai le lm rg F bi
  by_cases hk : ∃ o, K.lookup p = some o
  · obtain ⟨o, hk⟩ := hk
    have e := inK p o hk
    rw [at_] at e
    injection e with e
    subst e
    refine go (fun _ => none) (fun _ => .inl rfl) (.inr ⟨_, us.toArray, _, hk, rfl, rfl, rfl, ?_, vals⟩) (fun b u z => nomatch z) (fun b z => (z rfl).elim) fun z => (z rfl).elim
    rw [List.size_toArray, len]
    exact le
  · have hn : K.lookup p = none := by
      cases q : K.lookup p with
      | none => rfl
      | some o => exact absurd ⟨o, q⟩ hk
    have only1 : ∀ b, (if b = p then some (HO.frz { cls := .type "list", data := .seq us.toArray } (.lst (is.map V.int))) else none) ≠ none → b = p := fun b z => by
      by_cases q : b = p
      · exact q
      · exact absurd (if_neg q) z
    refine go (fun b => if b = p then some (HO.frz { cls := .type "list", data := .seq us.toArray } (.lst (is.map V.int))) else none) (fun b => ?_) (.inl (.inr ⟨_, if_pos rfl⟩)) (fun b u z => ?_) only1 fun _ => hn
    · by_cases q : b = p
      · exact .inr ⟨_, _, if_pos q⟩
      · exact .inl (if_neg q)
    · have q := only1 b fun w => nomatch z.symm.trans w
      subst q
      have z := (if_pos rfl).symm.trans z
      injection z with z
      subst z
      exact ⟨at_, by rw [List.length_map]; exact le, us, _, vals, at_⟩
/-- what k_head leaves -/
theorem walk_G {l : PySem.W.OpenLaw} {n k : Nat} {q : Program} {loose : List Str} {XP : (Str → Option Value) → Heap → Prop} {YP : World → Heap → Prop} {d : DefRec} {K : Params → PySem.W.Frag} {x : Str}
    (hn : l.most = some n) (hn2 : n ≤ sizeLine) (hdf : d.params.defaults = []) (rg : Rg k callerA) (hY : ∀ (w : World) (h : Heap), YP w h → (K w.params).In h)
    (F : ∀ (w : World) (mg : Str → Option Value) (g : Addr) (h : Heap), (K w.params).In h → h.Ns mainGlobals mg → mg d.name = some (.ref g) →
      ∃ fd : FuncData, (∀ (s : Shared) (u : Value), BindsTo s fd ⟨[u], []⟩ [(x, u)]) ∧ ∀ base : Heap, (K w.params).In base → base.Ns mainGlobals mg → FnG l.prog w (K w.params) mg base CX0 k g fd [x] (spLaw (K w.params) n)) :
    PySem.W.WalkO q loose XP YP l.row.toRowW d [] (fun f vs => PySem.call f vs) :=
  Att.attach_call hn hdf fun w s₀ s₁ mg mb g o pm cd doc a vs ns G Y ho hd hcd hmg hobj hints hlen hg => by
    have inK := hY w _ Y
    obtain ⟨fd, hb, hF⟩ := F w mg g _ inK G.T.g hmg
    exact law_true inK G.T.g G.T.b G.T.builtins G.T.nolimit hg hobj hints (Nat.le_trans hlen hn2) hlen rg hF hb
end DL

namespace DL
open PySem PySem.Spec PyProof.Rows L2

mutual
/-- what < (le: <=) of two data gives -/
def ordD (le : Bool) : PyData → PyData → Bool
  | .int i, .int j => if le then decide (i ≤ j) else decide (i < j)
  | .tuple xs, .tuple ys => ordA le xs ys
  | _, _ => false
def ordA (le : Bool) : List PyData → List PyData → Bool
  | [], ys => le || !ys.isEmpty
  | _ :: _, [] => false
  | x :: xs, y :: ys => if PyData.eqv x y = true then ordA le xs ys else ordD le x y
end
mutual
/-- can be compared: an int and an int, a tuple and a tuple whose items at equal places can be compared -/
def cmpD : PyData → PyData → Bool
  | .int _, .int _ => true
  | .tuple xs, .tuple ys => cmpA xs ys
  | _, _ => false
def cmpA : List PyData → List PyData → Bool
  | [], _ => true
  | _ :: _, [] => true
  | x :: xs, y :: ys => cmpD x y && cmpA xs ys
end
def opL (le : Bool) : CmpOp := if le then .LtE else .Lt
abbrev ordAt (le : Bool) (xs ys : List PyData) (j : Nat) : Bool := ordD le (xs.getD j .none) (ys.getD j .none)
theorem lex_data {le : Bool} : ∀ (k i : Nat) (xs ys : List PyData), k = min xs.length ys.length - i → i ≤ min xs.length ys.length →
    Ob.lexAt (SeqAt.pairEq xs ys) (ordAt le xs ys) (if le = true then decide (xs.length ≤ ys.length) else decide (xs.length < ys.length)) i k = ordA le (xs.drop i) (ys.drop i)
  | 0, i, xs, ys, hk, hi => by
    rw [Ob.lexAt_zero]
    have e : i = min xs.length ys.length := by omega
    rcases Nat.le_total xs.length ys.length with h | h
    · have ei : i = xs.length := by omega
      rw [ei, List.drop_length]
      show _ = (le || !(ys.drop xs.length).isEmpty)
      cases le with
      | true => rw [if_pos rfl, decide_eq_true h]; rfl
      | false =>
        rw [if_neg Bool.false_ne_true, Bool.false_or, Bool.eq_iff_iff, decide_eq_true_eq]
        cases q : ys.drop xs.length with
        | nil =>
          have := List.drop_eq_nil_iff.mp q
          simp
          omega
        | cons y r =>
          have : ¬ ys.length ≤ xs.length := fun z => by rw [List.drop_eq_nil_iff.mpr z] at q; cases q
          simp
          omega
    · have ei : i = ys.length := by omega
      cases q : xs.drop ys.length with
      | nil =>
        have z := List.drop_eq_nil_iff.mp q
        rw [ei, q, List.drop_length]
        show _ = (le || !([] : List PyData).isEmpty)
        cases le with
        | true => rw [if_pos rfl, decide_eq_true (by omega)]; rfl
        | false => rw [if_neg Bool.false_ne_true, decide_eq_false (by omega)]; rfl
      | cons x r =>
        have z : ¬ xs.length ≤ ys.length := fun z => by rw [List.drop_eq_nil_iff.mpr z] at q; cases q
        rw [ei, q, List.drop_length]
        show _ = false
        cases le with
        | true => rw [if_pos rfl, decide_eq_false z]
        | false => rw [if_neg Bool.false_ne_true, decide_eq_false (by omega)]
  | k + 1, i, xs, ys, hk, hi => by
    have h1 : i < xs.length := by omega
    have h2 : i < ys.length := by omega
    rw [Ob.lexAt_succ, List.drop_eq_getElem_cons h1, List.drop_eq_getElem_cons h2, lex_data k (i + 1) xs ys (by omega) (by omega)]
    have e1 : xs.getD i .none = xs[i] := by simp [h1]
    have e2 : ys.getD i .none = ys[i] := by simp [h2]
    show (if PyData.eqv (xs.getD i .none) (ys.getD i .none) = true then _ else ordD le (xs.getD i .none) (ys.getD i .none)) = ordA le (xs[i] :: xs.drop (i + 1)) (ys[i] :: ys.drop (i + 1))
    rw [e1, e2, ordA]
mutual
theorem rc_data (le : Bool) : ∀ (da db : PyData) (A : Around) (s : Shared) (a b : Value) (as bs : List Addr), Reads s.heap a da as → Reads s.heap b db bs → da.canLay0 = true → db.canLay0 = true → cmpD da db = true →
    A.units + min da.depth db.depth < cLine → Ob.RcOp (opL le) A s a b (ordD le da db)
  | .int i, .int j, A, s, _, _, _, _, ra, rb, _, _, _, _ => by
    cases ra
    cases rb
    cases le with
    | true => exact Ob.RcOp.le_int _ _ _ _
    | false => exact Ob.RcOp.lt_int _ _ _ _
  | .tuple xs, .tuple ys, A, s, _, _, _, _, ra, rb, ha, hb, hc, hu => by
    cases ra with
    | @tuple l o vs n _ as₁ h1 h2 h3 h4 =>
      cases rb with
      | @tuple l' o' vs' n' _ bs₁ k1 k2 k3 k4 =>
        have hl : s.heap.IsTuple l vs := ⟨_, h1, h2, _, h3⟩
        have hl' : s.heap.IsTuple l' vs' := ⟨_, k1, k2, _, k3⟩
        have n1 : vs.size = xs.length := by simpa using SeqAt.ReadsAll.length _ _ _ h4
        have n2 : vs'.size = ys.length := by simpa using SeqAt.ReadsAll.length _ _ _ k4
        have he : ∀ j (h1 : j < vs.size) (h2 : j < vs'.size), SeqAt.EqAt A.in1 s vs[j] vs'[j] (SeqAt.pairEq xs ys j) := fun j j1 j2 => by
          have := SeqAt.eqAt_readsAll xs ys A.in1 s vs.toList vs'.toList _ _ h4 k4 ha hb (SeqAt.room_in hu) j (by simpa using j1) (by simpa using j2)
          simpa using this
        have hr : ∀ j (h1 : j < vs.size) (h2 : j < vs'.size), SeqAt.pairEq xs ys j = false → Ob.RcOp (opL le) A.in1 s vs[j] vs'[j] (ordAt le xs ys j) := fun j j1 j2 _ => by
          have := rc_dataA le xs ys A.in1 s vs.toList vs'.toList _ _ h4 k4 ha hb hc (SeqAt.room_in hu) j (by simpa using j1) (by simpa using j2)
          simpa using this
        have e := lex_data (le := le) (min xs.length ys.length) 0 xs ys (by omega) (Nat.zero_le _)
        rw [List.drop_zero, List.drop_zero, ← n1, ← n2] at e
        show Ob.RcOp (opL le) A s _ _ (ordA le xs ys)
        rw [← e]
        cases le with
        | true => exact Ob.RcOp.tuples_le hl hl' (SeqAt.room_here hu) he hr
        | false => exact Ob.RcOp.tuples_lt hl hl' (SeqAt.room_here hu) he hr
  | .none, _, _, _, _, _, _, _, _, _, _, _, h, _ => by simp [cmpD] at h
  | .bool _, _, _, _, _, _, _, _, _, _, _, _, h, _ => by simp [cmpD] at h
  | .str _, _, _, _, _, _, _, _, _, _, _, _, h, _ => by simp [cmpD] at h
  | .list _, _, _, _, _, _, _, _, _, _, _, _, h, _ => by simp [cmpD] at h
  | .dict _, _, _, _, _, _, _, _, _, _, _, _, h, _ => by simp [cmpD] at h
  | .int _, .none, _, _, _, _, _, _, _, _, _, _, h, _ | .int _, .bool _, _, _, _, _, _, _, _, _, _, _, h, _ | .int _, .str _, _, _, _, _, _, _, _, _, _, _, h, _ | .int _, .list _, _, _, _, _, _, _, _, _, _, _, h, _
  | .int _, .tuple _, _, _, _, _, _, _, _, _, _, _, h, _ | .int _, .dict _, _, _, _, _, _, _, _, _, _, _, h, _ => by simp [cmpD] at h
  | .tuple _, .none, _, _, _, _, _, _, _, _, _, _, h, _ | .tuple _, .bool _, _, _, _, _, _, _, _, _, _, _, h, _ | .tuple _, .str _, _, _, _, _, _, _, _, _, _, _, h, _ | .tuple _, .list _, _, _, _, _, _, _, _, _, _, _, h, _
  | .tuple _, .int _, _, _, _, _, _, _, _, _, _, _, h, _ | .tuple _, .dict _, _, _, _, _, _, _, _, _, _, _, h, _ => by simp [cmpD] at h
theorem rc_dataA (le : Bool) : ∀ (xs ys : List PyData) (A : Around) (s : Shared) (vs ws : List Value) (as bs : List Addr), ReadsAll s.heap vs xs as → ReadsAll s.heap ws ys bs → PyData.canLayAll0 xs = true → PyData.canLayAll0 ys = true → cmpA xs ys = true →
    A.units + min (PyData.depthAll xs) (PyData.depthAll ys) < cLine → ∀ j (h1 : j < vs.length) (h2 : j < ws.length), Ob.RcOp (opL le) A s vs[j] ws[j] (ordAt le xs ys j)
  | [], _, _, _, _, _, _, _, ra, _, _, _, _, _, j, h1, _ => by cases ra; exact absurd h1 (Nat.not_lt_zero _)
  | _ :: _, [], _, _, _, _, _, _, _, rb, _, _, _, _, j, _, h2 => by cases rb; exact absurd h2 (Nat.not_lt_zero _)
  | x :: xs, y :: ys, A, s, _, _, _, _, ra, rb, ha, hb, hc, hu, j, h1, h2 => by
    have pa : x.canLay0 = true ∧ PyData.canLayAll0 xs = true := by simpa [PyData.canLayAll0] using ha
    have pb : y.canLay0 = true ∧ PyData.canLayAll0 ys = true := by simpa [PyData.canLayAll0] using hb
    have pc : cmpD x y = true ∧ cmpA xs ys = true := by simpa [cmpA] using hc
    cases ra with
    | cons r rs =>
      cases rb with
      | cons r2 rs2 =>
        cases j with
        | zero => exact rc_data le x y A s _ _ _ _ r r2 pa.1 pb.1 pc.1 (SeqAt.room_head hu)
        | succ j => exact rc_dataA le xs ys A s _ _ _ _ rs rs2 pa.2 pb.2 pc.2 (SeqAt.room_tail hu) j (Nat.lt_of_succ_lt_succ h1) (Nat.lt_of_succ_lt_succ h2)
end
/-- x < y, x <= y of such data -/
def rOrd (K : PySem.W.Frag) (le : Bool) : R2 := fun x y H Q => ∃ d e, Dp K H x d ∧ Dp K H y e ∧ SeqAt.shaped d = true ∧ SeqAt.shaped e = true ∧ cmpD d e = true ∧ Q (.bl (ordD le d e)) H
theorem op_ord {X : Cx} (le : Bool) (hu : X.A.units + 65 < cLine) : OpR X (compareOp (opL le)) (rOrd X.K le) := by
  intro pins s σ H x y v u Q I rx ry h
  obtain ⟨d, e, hd, he, sd, se, hc, q⟩ := h
  obtain ⟨as, r1⟩ := Dp.reads I d x v hd rx
  obtain ⟨bs, r2⟩ := Dp.reads I e y u he ry
  have R := rc_data le d e X.A s v u as bs r1 r2 (SeqAt.canLay_of_shaped sd) (SeqAt.canLay_of_shaped se) hc (SeqAt.room_of_shaped sd (by omega))
  have z : wpAny (model X.prog X.w) X.A (compareOp (opL le) v u) (EP X pins σ Q) X.xe s := by
    cases le with
    | true => exact R X.prog X.w X.xe (EP X pins σ Q) ⟨.bl _, H, I, rfl, q⟩
    | false => exact R X.prog X.w X.xe (EP X pins σ Q) ⟨.bl _, H, I, rfl, q⟩
  exact z
def fOrd (le : Bool) : PyData → PyData → (PyData → Prop) → Prop := fun x y Φ => Fit x ∧ Fit y ∧ cmpD x y = true ∧ Φ (.bool (ordD le x y))
theorem od_ord {G : Gx} {s s1 s2 : Bool} (le : Bool) : OpD G s s1 s2 (rOrd G.W.K le) (fOrd le) := by
  intro an O σ ρ H x y d e Φ Q S hx hy hf q
  exact ⟨d, e, Im.dp d x (dOk.plain hf.1) hx, Im.dp e y (dOk.plain hf.2.1) hy, dOk.shaped hf.1, dOk.shaped hf.2.1, hf.2.2.1, q _ H _ hf.2.2.2 rfl (Keep.refl H) S.inv⟩
end DL

namespace DL
open PySem PySem.Spec PyProof.Rows L2

mutual
/-- ints, and tuples of equally many such, of one shape -/
def sameD : PyData → PyData → Bool
  | .int _, .int _ => true
  | .tuple xs, .tuple ys => sameA xs ys
  | _, _ => false
def sameA : List PyData → List PyData → Bool
  | [], [] => true
  | x :: xs, y :: ys => sameD x y && sameA xs ys
  | _, _ => false
end
theorem sameA_cons {x y : PyData} {xs ys : List PyData} (h : sameA (x :: xs) (y :: ys) = true) : sameD x y = true ∧ sameA xs ys = true := by simpa [sameA] using h
mutual
theorem same_cmp : ∀ x y : PyData, sameD x y = true → cmpD x y = true
  | .int _, .int _, _ => rfl
  | .tuple xs, .tuple ys, h => same_cmpA xs ys h
  | .none, _, h | .bool _, _, h | .str _, _, h | .list _, _, h | .dict _, _, h => by simp [sameD] at h
  | .int _, .none, h | .int _, .bool _, h | .int _, .str _, h | .int _, .list _, h | .int _, .tuple _, h | .int _, .dict _, h => by simp [sameD] at h
  | .tuple _, .none, h | .tuple _, .bool _, h | .tuple _, .str _, h | .tuple _, .list _, h | .tuple _, .int _, h | .tuple _, .dict _, h => by simp [sameD] at h
theorem same_cmpA : ∀ xs ys : List PyData, sameA xs ys = true → cmpA xs ys = true
  | [], _, _ => rfl
  | _ :: _, [], _ => rfl
  | x :: xs, y :: ys, h => by
    have q := sameA_cons h
    show (cmpD x y && cmpA xs ys) = true
    rw [same_cmp x y q.1, same_cmpA xs ys q.2]; rfl
end
mutual
theorem same_noB : ∀ x y : PyData, sameD x y = true → noB x = true
  | .int _, .int _, _ => rfl
  | .tuple xs, .tuple ys, h => same_noBA xs ys h
  | .none, _, h | .bool _, _, h | .str _, _, h | .list _, _, h | .dict _, _, h => by simp [sameD] at h
  | .int _, .none, h | .int _, .bool _, h | .int _, .str _, h | .int _, .list _, h | .int _, .tuple _, h | .int _, .dict _, h => by simp [sameD] at h
  | .tuple _, .none, h | .tuple _, .bool _, h | .tuple _, .str _, h | .tuple _, .list _, h | .tuple _, .int _, h | .tuple _, .dict _, h => by simp [sameD] at h
theorem same_noBA : ∀ xs ys : List PyData, sameA xs ys = true → noBA xs = true
  | [], _, _ => rfl
  | _ :: _, [], h => by simp [sameA] at h
  | x :: xs, y :: ys, h => by
    have q := sameA_cons h
    show (noB x && noBA xs) = true
    rw [same_noB x y q.1, same_noBA xs ys q.2]; rfl
end
mutual
theorem same_symm : ∀ x y : PyData, sameD x y = true → sameD y x = true
  | .int _, .int _, _ => rfl
  | .tuple xs, .tuple ys, h => same_symmA xs ys h
  | .none, _, h | .bool _, _, h | .str _, _, h | .list _, _, h | .dict _, _, h => by simp [sameD] at h
  | .int _, .none, h | .int _, .bool _, h | .int _, .str _, h | .int _, .list _, h | .int _, .tuple _, h | .int _, .dict _, h => by simp [sameD] at h
  | .tuple _, .none, h | .tuple _, .bool _, h | .tuple _, .str _, h | .tuple _, .list _, h | .tuple _, .int _, h | .tuple _, .dict _, h => by simp [sameD] at h
theorem same_symmA : ∀ xs ys : List PyData, sameA xs ys = true → sameA ys xs = true
  | [], [], _ => rfl
  | [], _ :: _, h => by simp [sameA] at h
  | _ :: _, [], h => by simp [sameA] at h
  | x :: xs, y :: ys, h => by
    have q := sameA_cons h
    show (sameD y x && sameA ys xs) = true
    rw [same_symm x y q.1, same_symmA xs ys q.2]; rfl
end
/-- the first items decide unless they are equal -/
theorem ord_cons (le : Bool) {x y : PyData} {xs ys : List PyData} (h : sameD x y = true) : (x = y → ordA le (x :: xs) (y :: ys) = ordA le xs ys) ∧ (x ≠ y → ordA le (x :: xs) (y :: ys) = ordD le x y) := by
  have n1 := same_noB x y h
  have n2 := same_noB y x (same_symm x y h)
  refine ⟨fun e => ?_, fun e => ?_⟩
  · rw [ordA, if_pos ((eqv_iff x y n1 n2).mpr e)]
  · rw [ordA, if_neg fun z => e ((eqv_iff x y n1 n2).mp z)]
mutual
theorem ord_refl (le : Bool) : ∀ x y : PyData, sameD x y = true → ordD le x x = le
  | .int i, .int j, _ => by cases le <;> simp [ordD]
  | .tuple xs, .tuple ys, h => ord_reflA le xs ys h
  | .none, _, h | .bool _, _, h | .str _, _, h | .list _, _, h | .dict _, _, h => by simp [sameD] at h
  | .int _, .none, h | .int _, .bool _, h | .int _, .str _, h | .int _, .list _, h | .int _, .tuple _, h | .int _, .dict _, h => by simp [sameD] at h
  | .tuple _, .none, h | .tuple _, .bool _, h | .tuple _, .str _, h | .tuple _, .list _, h | .tuple _, .int _, h | .tuple _, .dict _, h => by simp [sameD] at h
theorem ord_reflA (le : Bool) : ∀ xs ys : List PyData, sameA xs ys = true → ordA le xs xs = le
  | [], _, _ => by cases le <;> rfl
  | _ :: _, [], h => by simp [sameA] at h
  | x :: xs, y :: ys, h => by
    have q := sameA_cons h
    rw [ordA, if_pos (eqv_self (same_noB x y q.1))]
    exact ord_reflA le xs ys q.2
end
mutual
/-- one of two different ones is below the other, and only one -/
theorem ord_tri (le : Bool) : ∀ x y : PyData, sameD x y = true → x ≠ y → (ordD le x y = true ∧ ordD le y x = false) ∨ (ordD le x y = false ∧ ordD le y x = true)
  | .int i, .int j, _, hn => by
    have : i ≠ j := fun e => hn (by rw [e])
    cases le <;> simp [ordD] <;> omega
  | .tuple xs, .tuple ys, h, hn => ord_triA le xs ys h fun e => hn (by rw [e])
  | .none, _, h, _ | .bool _, _, h, _ | .str _, _, h, _ | .list _, _, h, _ | .dict _, _, h, _ => by simp [sameD] at h
  | .int _, .none, h, _ | .int _, .bool _, h, _ | .int _, .str _, h, _ | .int _, .list _, h, _ | .int _, .tuple _, h, _ | .int _, .dict _, h, _ => by simp [sameD] at h
  | .tuple _, .none, h, _ | .tuple _, .bool _, h, _ | .tuple _, .str _, h, _ | .tuple _, .list _, h, _ | .tuple _, .int _, h, _ | .tuple _, .dict _, h, _ => by simp [sameD] at h
theorem ord_triA (le : Bool) : ∀ xs ys : List PyData, sameA xs ys = true → xs ≠ ys → (ordA le xs ys = true ∧ ordA le ys xs = false) ∨ (ordA le xs ys = false ∧ ordA le ys xs = true)
  | [], [], _, hn => absurd rfl hn
  | [], _ :: _, h, _ => by simp [sameA] at h
  | _ :: _, [], h, _ => by simp [sameA] at h
  | x :: xs, y :: ys, h, hn => by
    have q := sameA_cons h
    have q2 := same_symm x y q.1
    by_cases e : x = y
    · rw [(ord_cons le q.1).1 e, (ord_cons le q2).1 e.symm]
      exact ord_triA le xs ys q.2 fun z => hn (by rw [e, z])
    · rw [(ord_cons le q.1).2 e, (ord_cons le q2).2 (Ne.symm e)]
      exact ord_tri le x y q.1 e
end
mutual
theorem ord_trans : ∀ x y z : PyData, sameD x y = true → sameD y z = true → ordD false x y = true → ordD false y z = true → ordD false x z = true
  | .int i, .int j, .int k, _, _, h1, h2 => by simp [ordD] at h1 h2 ⊢; omega
  | .tuple xs, .tuple ys, .tuple zs, s1, s2, h1, h2 => ord_transA xs ys zs s1 s2 h1 h2
  | .none, _, _, h, _, _, _ | .bool _, _, _, h, _, _, _ | .str _, _, _, h, _, _, _ | .list _, _, _, h, _, _, _ | .dict _, _, _, h, _, _, _ => by simp [sameD] at h
  | .int _, .none, _, h, _, _, _ | .int _, .bool _, _, h, _, _, _ | .int _, .str _, _, h, _, _, _ | .int _, .list _, _, h, _, _, _ | .int _, .tuple _, _, h, _, _, _ | .int _, .dict _, _, h, _, _, _ => by simp [sameD] at h
  | .tuple _, .none, _, h, _, _, _ | .tuple _, .bool _, _, h, _, _, _ | .tuple _, .str _, _, h, _, _, _ | .tuple _, .list _, _, h, _, _, _ | .tuple _, .int _, _, h, _, _, _ | .tuple _, .dict _, _, h, _, _, _ => by simp [sameD] at h
  | .int _, .int _, .none, _, h, _, _ | .int _, .int _, .bool _, _, h, _, _ | .int _, .int _, .str _, _, h, _, _ | .int _, .int _, .list _, _, h, _, _ | .int _, .int _, .tuple _, _, h, _, _ | .int _, .int _, .dict _, _, h, _, _ => by simp [sameD] at h
  | .tuple _, .tuple _, .none, _, h, _, _ | .tuple _, .tuple _, .bool _, _, h, _, _ | .tuple _, .tuple _, .str _, _, h, _, _ | .tuple _, .tuple _, .list _, _, h, _, _ | .tuple _, .tuple _, .int _, _, h, _, _ | .tuple _, .tuple _, .dict _, _, h, _, _ => by simp [sameD] at h
theorem ord_transA : ∀ xs ys zs : List PyData, sameA xs ys = true → sameA ys zs = true → ordA false xs ys = true → ordA false ys zs = true → ordA false xs zs = true
  | [], [], _, _, _, h1, _ => by simp [ordA] at h1
  | [], _ :: _, _, h, _, _, _ => by simp [sameA] at h
  | _ :: _, [], _, h, _, _, _ => by simp [sameA] at h
  | _ :: _, _ :: _, [], _, h, _, _ => by simp [sameA] at h
  | x :: xs, y :: ys, z :: zs, s1, s2, h1, h2 => by
    have q1 := sameA_cons s1
    have q2 := sameA_cons s2
    have q3 := same_tr x y z q1.1 q2.1
    by_cases e1 : x = y
    · rw [(ord_cons false q1.1).1 e1] at h1
      by_cases e2 : y = z
      · rw [(ord_cons false q2.1).1 e2] at h2
        rw [(ord_cons false q3).1 (e1.trans e2)]
        exact ord_transA xs ys zs q1.2 q2.2 h1 h2
      · rw [(ord_cons false q2.1).2 e2] at h2
        rw [(ord_cons false q3).2 (by rw [e1]; exact e2), e1]
        exact h2
    · rw [(ord_cons false q1.1).2 e1] at h1
      by_cases e2 : y = z
      · rw [(ord_cons false q3).2 (by rw [← e2]; exact e1), ← e2]
        exact h1
      · rw [(ord_cons false q2.1).2 e2] at h2
        have h3 := ord_trans x y z q1.1 q2.1 h1 h2
        by_cases e3 : x = z
        · exfalso
          rw [e3, ord_refl false z y (same_symm y z q2.1)] at h3
          exact Bool.false_ne_true h3
        · rw [(ord_cons false q3).2 e3]; exact h3
theorem same_tr : ∀ x y z : PyData, sameD x y = true → sameD y z = true → sameD x z = true
  | .int _, .int _, .int _, _, _ => rfl
  | .tuple xs, .tuple ys, .tuple zs, s1, s2 => same_trA xs ys zs s1 s2
  | .none, _, _, h, _ | .bool _, _, _, h, _ | .str _, _, _, h, _ | .list _, _, _, h, _ | .dict _, _, _, h, _ => by simp [sameD] at h
  | .int _, .none, _, h, _ | .int _, .bool _, _, h, _ | .int _, .str _, _, h, _ | .int _, .list _, _, h, _ | .int _, .tuple _, _, h, _ | .int _, .dict _, _, h, _ => by simp [sameD] at h
  | .tuple _, .none, _, h, _ | .tuple _, .bool _, _, h, _ | .tuple _, .str _, _, h, _ | .tuple _, .list _, _, h, _ | .tuple _, .int _, _, h, _ | .tuple _, .dict _, _, h, _ => by simp [sameD] at h
  | .int _, .int _, .none, _, h | .int _, .int _, .bool _, _, h | .int _, .int _, .str _, _, h | .int _, .int _, .list _, _, h | .int _, .int _, .tuple _, _, h | .int _, .int _, .dict _, _, h => by simp [sameD] at h
  | .tuple _, .tuple _, .none, _, h | .tuple _, .tuple _, .bool _, _, h | .tuple _, .tuple _, .str _, _, h | .tuple _, .tuple _, .list _, _, h | .tuple _, .tuple _, .int _, _, h | .tuple _, .tuple _, .dict _, _, h => by simp [sameD] at h
theorem same_trA : ∀ xs ys zs : List PyData, sameA xs ys = true → sameA ys zs = true → sameA xs zs = true
  | [], [], _, _, h => h
  | [], _ :: _, _, h, _ => by simp [sameA] at h
  | _ :: _, [], _, h, _ => by simp [sameA] at h
  | _ :: _, _ :: _, [], _, h => by simp [sameA] at h
  | x :: xs, y :: ys, z :: zs, s1, s2 => by
    have q1 := sameA_cons s1
    have q2 := sameA_cons s2
    show (sameD x z && sameA xs zs) = true
    rw [same_tr x y z q1.1 q2.1, same_trA xs ys zs q1.2 q2.2]; rfl
end
/-- how many of ds are below -/
def rankD (ds : List PyData) (d : PyData) : Nat := (ds.filter fun e => ordD false e d).length
theorem count_le {α : Type} {p q : α → Bool} : ∀ {l : List α}, (∀ x ∈ l, p x = true → q x = true) → (l.filter p).length ≤ (l.filter q).length
  | [], _ => Nat.le_refl _
  | x :: l, h => by
    have ih := count_le (l := l) fun y hy => h y (List.mem_cons_of_mem _ hy)
    have h0 := h x List.mem_cons_self
    cases e1 : p x <;> cases e2 : q x <;> simp [List.filter_cons, e1, e2] <;> first | omega | (rw [h0 e1] at e2; cases e2)
theorem count_lt {α : Type} {p q : α → Bool} : ∀ {l : List α}, (∀ x ∈ l, p x = true → q x = true) → ∀ {a}, a ∈ l → q a = true → p a = false → (l.filter p).length < (l.filter q).length
  | x :: l, h, a, ha, hq, hp => by
    have h' : ∀ y ∈ l, p y = true → q y = true := fun y hy => h y (List.mem_cons_of_mem _ hy)
    have le := count_le h'
    have h0 := h x List.mem_cons_self
    rcases List.mem_cons.mp ha with rfl | ha
    · simp [List.filter_cons, hq, hp]; omega
    · have ih := count_lt h' ha hq hp
      cases e1 : p x <;> cases e2 : q x <;> simp [List.filter_cons, e1, e2] <;> first | omega | (rw [h0 e1] at e2; cases e2)
theorem rank_iff {ds : List PyData} (h : ∀ x ∈ ds, ∀ y ∈ ds, sameD x y = true) {d e : PyData} (hd : d ∈ ds) (he : e ∈ ds) : ordD false d e = decide (rankD ds d < rankD ds e) := by
  have up : ∀ {a b : PyData}, a ∈ ds → b ∈ ds → ordD false a b = true → rankD ds a < rankD ds b := fun {a b} ha hb hab =>
    count_lt (fun x hx hxa => ord_trans x a b (h x hx a ha) (h a ha b hb) hxa hab) ha hab (ord_refl false a a (h a ha a ha))
  rw [Bool.eq_iff_iff, decide_eq_true_eq]
  refine ⟨up hd he, fun hlt => ?_⟩
  by_cases e1 : d = e
  · rw [e1] at hlt; omega
  · rcases ord_tri false d e (h d hd e he) e1 with q | q
    · exact q.1
    · have := up he hd q.2
      omega
end DL

namespace DL
open PySem PySem.Spec PyProof.Rows L2

/-- a tuple whose first item is a tuple -/
def rowD : PyData → Bool
  | .tuple (.tuple _ :: _) => true
  | _ => false
structure RowsOk (ds : List PyData) : Prop where
  same : ∀ x ∈ ds, ∀ y ∈ ds, sameD x y = true
  row : ∀ x ∈ ds, rowD x = true
  lay : ∀ x ∈ ds, x.canLay0 = true
  dep : ∀ x ∈ ds, x.depth ≤ 50
mutual
theorem reads_keep {h h' : Heap} (k : ∀ b o, h.get? b = some o → o.cls = .type "tuple" → h'.get? b = some o) : ∀ (d e : PyData) (v : Value) (as : List Addr), sameD d e = true → Reads h v d as → Reads h' v d as
  | .int _, .int _, _, _, _, r => by cases r; exact .int _ _
  | .tuple xs, .tuple ys, _, _, s, r => by
    cases r with
    | tuple h1 h2 h3 h4 => exact .tuple (k _ _ h1 h2) h2 h3 (reads_keepA k xs ys _ _ s h4)
  | .none, _, _, _, h, _ | .bool _, _, _, _, h, _ | .str _, _, _, _, h, _ | .list _, _, _, _, h, _ | .dict _, _, _, _, h, _ => by simp [sameD] at h
  | .int _, .none, _, _, h, _ | .int _, .bool _, _, _, h, _ | .int _, .str _, _, _, h, _ | .int _, .list _, _, _, h, _ | .int _, .tuple _, _, _, h, _ | .int _, .dict _, _, _, h, _ => by simp [sameD] at h
  | .tuple _, .none, _, _, h, _ | .tuple _, .bool _, _, _, h, _ | .tuple _, .str _, _, _, h, _ | .tuple _, .list _, _, _, h, _ | .tuple _, .int _, _, _, h, _ | .tuple _, .dict _, _, _, h, _ => by simp [sameD] at h
theorem reads_keepA {h h' : Heap} (k : ∀ b o, h.get? b = some o → o.cls = .type "tuple" → h'.get? b = some o) : ∀ (xs ys : List PyData) (vs : List Value) (as : List Addr), sameA xs ys = true → ReadsAll h vs xs as → ReadsAll h' vs xs as
  | [], _, _, _, _, r => by cases r; exact .nil
  | _ :: _, [], _, _, s, _ => by simp [sameA] at s
  | x :: xs, y :: ys, _, _, s, r => by
    have q := sameA_cons s
    cases r with
    | cons r1 r2 => exact .cons (reads_keep k x y _ _ q.1 r1) (reads_keepA k xs ys _ _ q.2 r2)
end
section
variable {prog : Program} {w : World} {A : Around} {E : Value → Shared → Prop} {s : Shared}
theorem lex_rows {Q : Bool → Shared → Prop} : ∀ (xs ys : List PyData) (vs ws : List Value) (as bs : List Addr) (i : Nat), ReadsAll s.heap vs xs as → ReadsAll s.heap ws ys bs → PyData.canLayAll0 xs = true → PyData.canLayAll0 ys = true → sameA xs ys = true →
    A.units + min (PyData.depthAll xs) (PyData.depthAll ys) < cLine → Q (ordA false xs ys) s → PySem.W.KatLex prog w A false false Q (vs.zip ws) i s
  | [], [], _, _, _, _, i, ra, rb, _, _, _, _, hq => by
    cases ra
    cases rb
    exact PySem.W.kat_nil hq
  | [], _ :: _, _, _, _, _, _, _, _, _, _, h, _, _ => by simp [sameA] at h
  | _ :: _, [], _, _, _, _, _, _, _, _, _, h, _, _ => by simp [sameA] at h
  | x :: xs, y :: ys, _, _, _, _, i, ra, rb, ha, hb, h, hu, hq => by
    have pa : x.canLay0 = true ∧ PyData.canLayAll0 xs = true := by simpa [PyData.canLayAll0] using ha
    have pb : y.canLay0 = true ∧ PyData.canLayAll0 ys = true := by simpa [PyData.canLayAll0] using hb
    have q := sameA_cons h
    cases ra with
    | cons r rs =>
      cases rb with
      | cons r2 rs2 =>
        refine PySem.W.kat_cons (SeqAt.eqAt_reads x y A s _ _ _ _ r r2 pa.1 pb.1 (SeqAt.room_head hu) prog w _ _ ?_)
        rw [ordA] at hq
        refine PySem.W.kat_go (fun e => ?_) fun e => ?_
        · rw [if_pos e] at hq
          exact PySem.W.kat_yes (lex_rows xs ys _ _ _ _ (i + 1) rs rs2 pa.2 pb.2 q.2 (SeqAt.room_tail hu) hq)
        · rw [if_neg (by rw [e]; exact Bool.false_ne_true)] at hq
          exact PySem.W.kat_no (PySem.W.kat_one _ _ (rc_data false x y A s _ _ _ _ r r2 pa.1 pb.1 (same_cmp x y q.1) (SeqAt.room_head hu) prog w _ _ hq))
theorem firsts_rows {h : Heap} : ∀ (vs : List Value) (ds : List PyData) (as : List Addr), ReadsAll h vs ds as → (∀ x ∈ ds, rowD x = true) →
    ∃ fs : List Value, PySem.W.KatTups h vs fs ∧ fs.length = vs.length ∧ ∀ f ∈ fs, ∃ a o, f = Value.ref a ∧ h.get? a = some o ∧ o.cls = .type "tuple"
  | _, [], _, r, _ => by cases r; exact ⟨[], PySem.W.KatTups.nil, rfl, fun _ q => by cases q⟩
  | _, d :: ds, _, r, hd => by
    cases r with
    | cons r1 r2 =>
      obtain ⟨fs, k1, k2, k3⟩ := firsts_rows _ ds _ r2 fun x hx => hd x (List.mem_cons_of_mem _ hx)
      have h0 := hd d List.mem_cons_self
      match d, r1, h0 with
      | .tuple (.tuple cs :: rest), r1, _ =>
        cases r1 with
        | @tuple a o us n _ _ h1 h2 h3 h4 =>
          generalize hus : us.toList = ul at h4
          cases h4 with
          | @cons f _ _ _ _ _ q1 q2 =>
            cases q1 with
            | @tuple a1 o1 us1 n1 _ _ g1 g2 g3 g4 =>
              refine ⟨.ref a1 :: fs, PySem.W.KatTups.cons h1 h2 h3 ?_ k1, by rw [List.length_cons, List.length_cons, k2], fun f hf => ?_⟩
              · have := congrArg (fun l : List Value => l[0]?) hus
                simpa using this
              · rcases List.mem_cons.mp hf with rfl | hf
                · exact ⟨a1, o1, rfl, g1, g2⟩
                · exact k3 f hf
theorem reads_in {h : Heap} : ∀ {ds : List PyData} {vs : List Value} {as : List Addr}, ReadsAll h vs ds as → ∀ v ∈ vs, ∃ d ∈ ds, ∃ bs, Reads h v d bs
  | [], _, _, r, v, hv => by cases r; cases hv
  | d :: ds, _, _, r, v, hv => by
    cases r with
    | cons r1 r2 =>
      rcases List.mem_cons.mp hv with rfl | hv
      · exact ⟨d, List.mem_cons_self, _, r1⟩
      · obtain ⟨e, he, bs, q⟩ := reads_in r2 v hv
        exact ⟨e, List.mem_cons_of_mem _ he, bs, q⟩
theorem rows_row {d : PyData} (h : rowD d = true) : ∃ cs rest, d = .tuple (.tuple cs :: rest) := by
  match d, h with
  | .tuple (.tuple cs :: rest), _ => exact ⟨cs, rest, rfl⟩
/-- two rows compared by a sort of rows -/
theorem lt_rows {ds : List PyData} (R : RowsOk ds) {d e : PyData} (hd : d ∈ ds) (he : e ∈ ds) {v u : Value} {as bs : List Addr} (r1 : Reads s.heap v d as) (r2 : Reads s.heap u e bs) (hu : A.units + 50 < cLine) {Q : Bool → Shared → Prop} (hq : Q (ordD false d e) s) :
    wpAny (model prog w) A (keyLt' (tuples' false) v u) Q E s := by
  have lay1 := R.lay d hd
  have lay2 := R.lay e he
  have dep1 := R.dep d hd
  have sm := R.same d hd e he
  obtain ⟨c1, t1, rfl⟩ := rows_row (R.row d hd)
  obtain ⟨c2, t2, rfl⟩ := rows_row (R.row e he)
  cases r1 with
  | @tuple a o xs n _ _ h1 h2 h3 h4 =>
    cases r2 with
    | @tuple b o2 ys n2 _ _ k1 k2 k3 k4 =>
      have l1 := SeqAt.ReadsAll.length _ _ _ h4
      have l2 := SeqAt.ReadsAll.length _ _ _ k4
      have len : ∀ p q : List PyData, sameA p q = true → p.length = q.length := fun p => by
        induction p with
        | nil => intro q h; cases q with
          | nil => rfl
          | cons => simp [sameA] at h
        | cons x p ih => intro q h; cases q with
          | nil => simp [sameA] at h
          | cons y q => rw [List.length_cons, List.length_cons, ih q (sameA_cons h).2]
      have l3 := len _ _ sm
      have e0 : decide (xs.size < ys.size) = false := decide_eq_false (by
        rw [Array.length_toList] at l1 l2
        omega)
      refine PySem.W.kat_lt h1 h3 k1 k3 ?_
      rw [e0]
      refine lex_rows _ _ _ _ _ _ 0 h4 k4 lay1 lay2 sm ?_ hq
      have : PyData.depthAll (.tuple c1 :: t1) + 1 ≤ 50 := dep1
      omega
/-- a list of rows sorts itself -/
theorem sort_rows {a : Addr} {vs : List Value} {ds : List PyData} {as : List Addr} {n : Nat} {P : PySem.Fin → Shared → Prop} (ho : s.heap.get? a = some (seqObj "list" vs.toArray n)) (h64 : vs.length < 64) (rd : ReadsAll s.heap vs ds as) (R : RowsOk ds)
    (g : Value → PyData) (hg : ∀ v ∈ vs, ∀ d ∈ ds, ∀ bs, Reads s.heap v d bs → g v = d) (hu : A.units + 50 < cLine)
    (h : ∀ out : Array Value, out.toList.Perm vs → out.toList.Pairwise (fun u v => rankD ds (g u) ≤ rankD ds (g v)) → P (.done (.ret .none)) { s with heap := sortedHeap s.heap a vs out }) :
    wpAny (model prog w) A (Builtin.«list.sort» ⟨[.ref a], []⟩) P E s := by
  have stay : ∀ b o, s.heap.get? b = some o → o.cls = .type "tuple" → (TS.midHeap s.heap a vs).get? b = some o := fun b o e hc => by
    by_cases z : b = a
    · rw [z, ho] at e
      injection e with e
      rw [← e] at hc
      exact absurd (show Value.type "list" = Value.type "tuple" from hc) (by simp)
    · exact TS.midHeap_old z e
  have rd2 : ∀ v ∈ vs, ∃ d ∈ ds, ∃ bs, Reads (TS.midHeap s.heap a vs) v d bs ∧ g v = d := fun v hv => by
    obtain ⟨d, hd, bs, q⟩ := reads_in rd v hv
    exact ⟨d, hd, bs, reads_keep stay d d v bs (R.same d hd d hd) q, hg v hv d hd bs q⟩
  refine SK.plain_sort (r := fun v => ((rankD ds (g v) : Nat) : Int)) ho h64 (fun h2 Q hQ => ?_) fun ps out h1 h2 h3 => ?_
  · have rdA : ReadsAll (TS.midHeap s.heap a vs) vs ds as := by
      have : ∀ (xs : List PyData) (us : List Value) (bs : List Addr), (∀ x ∈ xs, sameD x x = true) → ReadsAll s.heap us xs bs → ReadsAll (TS.midHeap s.heap a vs) us xs bs := fun xs => by
        induction xs with
        | nil => intro us bs _ r; cases r; exact .nil
        | cons x xs ih =>
          intro us bs hx r
          cases r with
          | cons r1 r2 => exact .cons (reads_keep stay x x _ _ (hx x List.mem_cons_self) r1) (ih _ _ (fun y hy => hx y (List.mem_cons_of_mem _ hy)) r2)
      exact this ds vs as (fun x hx => R.same x hx x hx) rd
    obtain ⟨fs, k1, k2, k3⟩ := firsts_rows vs ds as rdA R.row
    refine PySem.W.kat_kind (T := Value.type "tuple") (s := { s with heap := TS.midHeap s.heap a vs }) k1 (by omega) (fun f hf => ?_) rfl (hQ _ ?_)
    · obtain ⟨b, o, rfl, hb, hc⟩ := k3 f hf
      rw [← hc]
      exact (PySem.W.Looks.ld hb).andThen .now
    · intro x y hx hy Q' E' hq
      rw [pairsOf_toList] at hx hy
      obtain ⟨d, hd, bs, r1, g1⟩ := rd2 x.1 (List.of_mem_zip hx).1
      obtain ⟨e, he, cs, r2, g2⟩ := rd2 y.1 (List.of_mem_zip hy).1
      have e1 : decide (((rankD ds (g x.1) : Nat) : Int) < ((rankD ds (g y.1) : Nat) : Int)) = ordD false d e := by
        rw [g1, g2, rank_iff R.same hd he]
        exact decide_eq_decide.mpr Int.ofNat_lt
      have hq2 : Q' (ordD false d e) { s with heap := TS.midHeap s.heap a vs } := by rw [← e1]; exact hq
      exact lt_rows (s := { s with heap := TS.midHeap s.heap a vs }) R hd he r1 r2 hu hq2
  · obtain ⟨p, o⟩ := TS.out_rank (r := fun v => ((rankD ds (g v) : Nat) : Int)) h1 h2 h3
    exact h out p (o.imp fun q => Int.ofNat_le.mp q)
end
end DL

namespace DL
open PySem PySem.Spec PyProof.Rows L2

/-- a permutation of images is the image of a permutation -/
theorem perm_lift {α β : Type} (f : α → β) {out m : List β} (h : out.Perm m) : ∀ L : List α, m = L.map f → ∃ L2 : List α, L2.Perm L ∧ out = L2.map f := by
  induction h with
  | nil =>
    intro L e
    exact ⟨L, .refl _, e⟩
  | cons x _ ih =>
    intro L e
    cases L with
    | nil => cases e
    | cons a L =>
      injection e with e1 e2
      obtain ⟨L2, p, q⟩ := ih L e2
      exact ⟨a :: L2, p.cons a, by rw [q, e1]; rfl⟩
  | swap x y l =>
    intro L e
    match L, e with
    | a :: b :: L, e =>
      injection e with e1 e
      injection e with e2 e3
      exact ⟨b :: a :: L, .swap .., by rw [e1, e2, e3]; rfl⟩
  | trans _ _ ih1 ih2 =>
    intro L e
    obtain ⟨L1, p1, e1⟩ := ih2 L e
    obtain ⟨L2, p2, e2⟩ := ih1 L1 e1
    exact ⟨L2, p2.trans p1, e2⟩
section
variable {prog : Program} {w : World} {A : Around} {E : Value → Shared → Prop} {s : Shared}
/-- sorted(l): a new list at size + 1 -/
theorem sorted_rows {l : Addr} {vs : List Value} {ds : List PyData} {as : List Addr} {Q : Value → Shared → Prop} (hl : s.heap.IsList l vs.toArray) (h64 : vs.length < 64) (rd : ReadsAll s.heap vs ds as) (R : RowsOk ds)
    (g : Value → PyData) (hg : ∀ v ∈ vs, ∀ (h' : Heap), (∀ b o, s.heap.get? b = some o → h'.get? b = some o) → ∀ d ∈ ds, ∀ bs, Reads h' v d bs → g v = d) (hu : A.units + 52 < cLine)
    (h : ∀ out : Array Value, out.toList.Perm vs → out.toList.Pairwise (fun u v => rankD ds (g u) ≤ rankD ds (g v)) → Q (.ref (s.heap.objs.size + 1)) { s with heap := sortedAll s.heap vs out }) :
    wpAny (model prog w) A (call (.builtin "sorted") [.ref l]) Q E s := by
  have z64 : vs.length ≤ sizeLine := by rw [sizeLine_eq]; omega
  refine Calls.call_function_entry kind_sorted plain_sorted
    entry_sorted (args_sorted1 _) ?_
  unfold Builtin.«sorted»
  refine wpAny_bind (m := checkCount "sorted" 1 1 _)
    (wpAny_pure ?_)
  refine wpAny_bind (collect_list hl ?_ z64)
  refine wpAny_bind (wpAny_newList ?_ z64)
  generalize hm : (s.heap.push (seqObj "list" #[] 0)).update s.heap.objs.size (Obj.mapSeq (· ++ vs.toArray)) = m
  have sz : m.objs.size = s.heap.objs.size + 1 := by rw [← hm, Heap.size_update, size_push']
  have mk : ∀ b o, s.heap.get? b = some o → m.get? b = some o := fun b o e => by
    have lt : b < s.heap.objs.size := Heap.lt_size e
    rw [← hm, Heap.get?_update_ne _ _ _ _ (Nat.ne_of_lt lt)]
    exact Heap.get?_push_of_some _ e
  have at1 : (m.push (seqObj "list" vs.toArray 0)).get? (s.heap.objs.size + 1) = some (seqObj "list" vs.toArray 0) := by
    rw [← sz]
    exact Heap.get?_push_size _ rfl
  have mk1 : ∀ b o, s.heap.get? b = some o → (m.push (seqObj "list" vs.toArray 0)).get? b = some o := fun b o e => Heap.get?_push_of_some _ (mk b o e)
  have rd1 : ReadsAll (m.push (seqObj "list" vs.toArray 0)) vs ds as := by
    have : ∀ (xs : List PyData) (us : List Value) (bs : List Addr), (∀ x ∈ xs, sameD x x = true) → ReadsAll s.heap us xs bs → ReadsAll (m.push (seqObj "list" vs.toArray 0)) us xs bs := fun xs => by
      induction xs with
      | nil => intro us bs _ r; cases r; exact .nil
      | cons x xs ih =>
        intro us bs hx r
        cases r with
        | cons r1 r2 => exact .cons (reads_keep (fun b o e _ => mk1 b o e) x x _ _ (hx x List.mem_cons_self) r1) (ih _ _ (fun y hy => hx y (List.mem_cons_of_mem _ hy)) r2)
    exact this ds vs as (fun x hx => R.same x hx x hx) rd
  have hm2 : m.objs.size = s.heap.objs.size + 1 := sz
  show wpAny _ _ _ _ _ { s with heap := m.push (seqObj "list" vs.toArray 0) }
  rw [hm2]
  refine wpAny_bind (wpAny_holding (wpAny_call_entry slot_list_sort ⟨_, at1, rfl⟩ entry_list_sort
    (sort_rows (s := { s with heap := m.push (seqObj "list" vs.toArray 0) }) at1 h64 rd1 R g (fun v hv d hd bs r => hg v hv _ mk1 d hd bs r) (by show A.units + 1 + 1 + 50 < cLine; omega) fun out p1 p2 => ⟨_, rfl, ?_⟩) (args_list_sort _)))
  refine wpAny_pure ⟨_, rfl, ?_⟩
  have := h out p1 p2
  unfold sortedAll at this
  rw [hm] at this
  exact this
end
/-- sorted(xs) of a list of rows -/
def rSortN (K : PySem.W.Frag) : List V → Hp → VK → Prop := fun vs H Q => ∃ (a : Addr) (xs : List V) (ds : List PyData), vs = [V.ref a] ∧ SqL K H a xs ∧ DpAll K H xs ds ∧ xs.length < 64 ∧ RowsOk ds ∧
  ∀ (ps : List (V × PyData)) (p : Addr), ps.Perm (xs.zip ds) → (ps.map (·.2)).Pairwise (fun d e => ordD false e d = false) → H p = none → Q (.ref p) (upd H p (.lst (ps.map (·.1))))
theorem cr_sortN {X : Cx} (hu : X.A.units + 65 < cLine) : CallR X (.builtin "sorted") (rSortN X.K) := by
  intro pins s σ H vs us Q I r h
  obtain ⟨a, xs, ds, rfl, hs, hd, h64, R, q⟩ := h
  obtain ⟨its, rv, hl, hz⟩ := I.list hs
  rw [Vals.ref1 r]
  obtain ⟨as, rd⟩ := Dp.readsAll I ds xs its hd rv
  have l1 : xs.length = its.length := rv.length
  have l2 : its.length = ds.length := SeqAt.ReadsAll.length _ _ _ rd
  -- an item, its value of the layer, its datum
  generalize hT : its.zip (xs.zip ds) = T
  have t1 : its = T.map (·.1) := by rw [← hT, List.map_fst_zip]; rw [List.length_zip]; omega
  have t2 : xs.zip ds = T.map (·.2) := by rw [← hT, List.map_snd_zip]; rw [List.length_zip]; omega
  have tR : ∀ t ∈ T, RelV t.2.1 t.1 ∧ t.2.2 ∈ ds ∧ ∃ bs, Reads s.heap t.1 t.2.2 bs := by
    rw [← hT]
    clear t1 t2 hT q R h64 hl l1 l2 hs hz r
    induction rv generalizing ds as with
    | nil => intro t ht; simp at ht
    | cons r1 r2 ih =>
      intro t ht
      cases rd with
      | cons q1 q2 =>
        cases hd with
        | cons d1 d2 =>
          rw [List.zip_cons_cons, List.zip_cons_cons] at ht
          rcases List.mem_cons.mp ht with rfl | ht
          · exact ⟨r1, List.mem_cons_self, _, q1⟩
          · obtain ⟨e1, e2, e3⟩ := ih _ d2 _ q2 t ht
            exact ⟨e1, List.mem_cons_of_mem _ e2, e3⟩
  refine sorted_rows (s := s) (g := SeqAt.readOf s.heap) hl.isList (by rw [← l1]; exact h64) rd R (fun v hv h2 hk d hd2 bs rd2 => ?_) (by omega) fun out p1 p2 => ?_
  · obtain ⟨e, he, cs, rd3⟩ := reads_in rd v hv
    rw [SeqAt.readOf_eq (R.lay e he) rd3]
    exact SeqAt.Reads.unique e d v _ _ (R.lay e he) (reads_keep (fun b o x _ => hk b o x) e e v cs (R.same e he e he) rd3) rd2
  · obtain ⟨T2, pT, eT⟩ := perm_lift (·.1) p1 T t1
    have sub : ∀ t ∈ T2, t ∈ T := fun t ht => pT.mem_iff.mp ht
    have hp : (T2.map (·.2)).Perm (xs.zip ds) := by rw [t2]; exact pT.map _
    have hv : Vals ((T2.map (·.2)).map (·.1)) out.toList := by
      rw [eT]
      have : ∀ L : List (Value × V × PyData), (∀ t ∈ L, t ∈ T) → Vals ((L.map (·.2)).map (·.1)) (L.map (·.1)) := fun L => by
        induction L with
        | nil => intro _; exact .nil
        | cons t L ih => intro hm; exact .cons (tR t (hm t List.mem_cons_self)).1 (ih fun u hu => hm u (List.mem_cons_of_mem _ hu))
      exact this T2 sub
    obtain ⟨ep, at2⟩ := PyProof.Rows.sortedAll_at s.heap its out
    have len : ((T2.map (·.2)).map (·.1)).length ≤ sizeLine := by
      rw [List.length_map, hp.length_eq, List.length_zip]
      exact Nat.le_trans (Nat.min_le_left _ _) hz
    refine ⟨.ref _, upd H (s.heap.objs.size + 1) (.lst ((T2.map (·.2)).map (·.1))), I.laid (t' := s.toks) (fun _ _ => PyProof.Rows.sortedAll_old) (Nat.le_succ _) ⟨len, out.toList, ep, hv, at2⟩, rfl, q _ _ hp ?_ (I.hok.fresh (Nat.le_succ _))⟩
    rw [eT, List.pairwise_map] at p2
    rw [List.map_map, List.pairwise_map]
    refine List.Pairwise.imp_of_mem (fun {t u} ht hu2 hle => ?_) p2
    obtain ⟨_, d1, bs1, q1⟩ := tR t (sub t ht)
    obtain ⟨_, d2, bs2, q2⟩ := tR u (sub u hu2)
    rw [SeqAt.readOf_eq (R.lay _ d1) q1, SeqAt.readOf_eq (R.lay _ d2) q2] at hle
    show ordD false u.2.2 t.2.2 = false
    rw [rank_iff R.same d2 d1]
    exact decide_eq_false (by omega)
end DL

namespace DL
open PySem PySem.Spec PyProof.Rows L2

section
variable {W : Wd} {N N' : Addr → Prop} {H : Hp}
theorem ima_pairs : ∀ {ps : List (V × PyData)}, (∀ p ∈ ps, Im W N H p.2 p.1) → ImA W N H (ps.map (·.2)) (ps.map (·.1))
  | [], _ => rfl
  | p :: ps, h => ⟨p.1, _, rfl, h p List.mem_cons_self, ima_pairs fun q hq => h q (List.mem_cons_of_mem _ hq)⟩
theorem ImA.zipp : ∀ {ds : List PyData} {vs : List V}, ImA W N H ds vs → ∀ p ∈ vs.zip ds, Im W N H p.2 p.1
  | [], _, h, p, hp => by cases h; simp at hp
  | d :: ds, _, h, p, hp => by
    obtain ⟨v, r, rfl, q1, q2⟩ := h
    rw [List.zip_cons_cons] at hp
    rcases List.mem_cons.mp hp with rfl | hp
    · exact q1
    · exact ImA.zipp q2 p hp
mutual
/-- no list and no object in it -/
def lstFree : PyData → Bool
  | .list _ => false
  | .dict _ => false
  | .tuple xs => lstFreeA xs
  | _ => true
def lstFreeA : List PyData → Bool
  | [] => true
  | x :: xs => lstFree x && lstFreeA xs
end
mutual
theorem Im.free : ∀ (d : PyData) (v : V), lstFree d = true → Im W N H d v → Im W N' H d v
  | .none, _, _, h => h
  | .bool _, _, _, h => h
  | .int _, _, _, h => h
  | .str _, _, _, h => h
  | .list _, _, q, _ => by simp [lstFree] at q
  | .dict _, _, q, _ => by simp [lstFree] at q
  | .tuple ds, v, q, h => by
    obtain ⟨a, xs, e, r, m⟩ := h
    exact ⟨a, xs, e, r, ImA.free ds xs (by simpa [lstFree] using q) m⟩
theorem ImA.free : ∀ (ds : List PyData) (vs : List V), lstFreeA ds = true → ImA W N H ds vs → ImA W N' H ds vs
  | [], _, _, h => h
  | d :: ds, _, q, h => by
    obtain ⟨v, r, e, q1, q2⟩ := h
    have q : lstFree d = true ∧ lstFreeA ds = true := by simpa [lstFreeA] using q
    exact ⟨v, r, e, Im.free d v q.1 q1, ImA.free ds r q.2 q2⟩
end
theorem lstFreeA_iff : ∀ {xs : List PyData}, lstFreeA xs = true ↔ ∀ x ∈ xs, lstFree x = true
  | [] => by simp [lstFreeA]
  | x :: xs => by simp [lstFreeA, lstFreeA_iff (xs := xs)]
end
/-- what a list must be for its rows to be sorted -/
structure RowsL (xs : List PyData) : Prop where
  fit : Fit (.list xs)
  few : xs.length < 64
  same : ∀ x ∈ xs, ∀ y ∈ xs, sameD x y = true
  row : ∀ x ∈ xs, rowD x = true
theorem RowsL.ok {xs : List PyData} (h : RowsL xs) : RowsOk xs := by
  have f := h.fit
  unfold Fit at f
  simp only [dOk] at f
  have a := dOkA_iff.mp f
  exact ⟨h.same, h.row, fun x hx => (dOk.all 19 x (a x hx)).2.1, fun x hx => Nat.le_trans (dOk.all 19 x (a x hx)).2.2 (by decide)⟩
def fSortN : List PyData → (PyData → Prop) → Prop := fun ds Φ => match ds with
  | [.list xs] => RowsL xs ∧ ∀ es : List PyData, es.Perm xs → es.Pairwise (fun d e => ordD false e d = false) → Φ (.list es)
  | _ => False
section
variable {X : Cx} {G : Gx} {pos : Pos} {s s1 s2 : Bool} {e a b : Expr} {es : List Expr} {we wl : WE} {wr : WA}
theorem cd_sortN : CallD G s s (rSortN G.W.K) fSortN := by
  intro an O σ ρ H vs ds Φ Q S hv hf q
  unfold fSortN at hf
  split at hf
  · rename_i xs
    obtain ⟨v, rfl, im⟩ := im1 hv
    obtain ⟨p, ws, rfl, r, n, m⟩ := im
    have l1 := ImA.length m
    refine ⟨p, ws, xs, rfl, .inl (.inl r), ImA.dp _ _ (dOk.plain (n := 20) (d := .list xs) hf.1.fit) m, by rw [l1]; exact hf.1.few, hf.1.ok, fun ps l h1 h2 hl => ?_⟩
    have e2 : (ps.map (·.2)).Perm xs := by
      have := h1.map (·.2)
      rw [List.map_snd_zip (by omega)] at this
      exact this
    refine q _ _ _ (hf.2 (ps.map (·.2)) e2 h2) (S.lst hl (ima_pairs fun t ht => ImA.zipp m t (h1.mem_iff.mp ht))) (Keep.new hl) (S.newI hl)
  · exact hf.elim
def fSortS : List PyData → (PyData → Prop) → Prop := fun ds Φ => match ds with
  | [.list xs] => ∃ ss : List Str, xs = ss.map .str ∧ ss.length < 64 ∧ ∀ ys : List Str, ys.Perm ss → sortedS ys = true → Φ (.list (ys.map .str))
  | _ => False
theorem cd_sortS : CallD G s s1 (rSortedS G.W.K) fSortS := by
  intro an O σ ρ H vs ds Φ Q S hv hf q
  unfold fSortS at hf
  split at hf
  · obtain ⟨v, rfl, im⟩ := im1 hv
    obtain ⟨p, xs, rfl, r, n, m⟩ := im
    obtain ⟨ss, rfl, h64, hf⟩ := hf
    have e := ImA.strs m
    subst e
    exact ⟨p, ss, rfl, .inl (.inl r), h64, fun ys l h1 h2 hl => q _ _ _ (hf ys h1 h2) (S.lst hl (ImA.of_strs ys)) (Keep.new hl) (S.newI hl)⟩
  · exact hf.elim
/-- sep.join(texts) -/
def wJoin (we wl : WE) : WE := fun ρ Φ => we ρ fun d => match d with
  | .str z => wl ρ fun l => (match l with
    | .list xs => ∃ ys : List Str, xs = ys.map .str ∧ (ys.map (·.length)).sum + ys.length * z.length ≤ 16777216 ∧ Φ (.str (Txt.join z ys))
    | _ => False)
  | _ => False
theorem de_join {apos pos : Pos} (hK : X.K = G.W.K) (ho : PE X a (up G s1 we)) (he : PE X e (up G s2 wl)) (hs : starEach [e] X.env = [(false, eval e X.env)] := by rfl) (hbase : attributeBase a "join" X.env (eval a X.env) = eval a X.env := by rfl) (hline : (apos.endLine == pos.line) = true := by rfl) :
    PE X (.Call (.Attribute a "join" apos) [e] [] pos) (up G s (wJoin we wl)) := pe_weak (pe_join ho he hs hbase hline) fun σ H Q ⟨an, O, ρ, Φ, S, h, q⟩ => by
  refine ⟨an, O, ρ, _, S, h, fun v H1 d h1 im k1 i1 => ?_⟩
  cases d with
  | str z =>
    obtain rfl : v = .str z := im
    refine ⟨⟨z, rfl⟩, an, O, ρ, _, S.keep k1 i1, h1, fun y H2 l h2 im2 k2 i2 => ?_⟩
    cases l with
    | list xs =>
      obtain ⟨ys, rfl, hz, hq⟩ := h2
      obtain ⟨p, vs, rfl, r, n, m⟩ := im2
      have e := ImA.strs m
      subst e
      exact ⟨z, p, ys, rfl, rfl, .inl (by rw [hK]; exact .inl (.inl r)), hz, q _ H2 _ hq rfl (k1.trans k2) i2⟩
    | _ => exact h2.elim
  | _ => exact h1.elim
/-- list(xs) of a list or a tuple: a new list -/
def wListOf (we : WE) : WF := fun ρ Φ => we ρ fun d => match d with | .list xs => Φ xs | .tuple xs => Φ xs | _ => False
theorem Sta.newAt {an : List (PyData × V)} {O : Nat → Option Addr} {σ : L2.St} {H H1 : Hp} {ρ : Ev} (S : Sta G an O σ H ρ) (k : Keep G.R.M H H1) (i : G.R.I H1) {p : Addr} (hp : H1 p = none) : H p = none := by
  cases z : H p with
  | none => rfl
  | some o =>
    by_cases m : G.R.M p
    · obtain ⟨o2, y⟩ := G.R.al H1 p i m
      rw [hp] at y; cases y
    · rw [k.ob p o z m] at hp; cases hp
theorem df_listOf {x : Str} {p : Pos} (hg : Gl X "list") (hm : X.mg "list" = none) (hK : X.K = G.W.K) (ha : PE X e (up G true we)) (he : starEach [e] X.env = (false, eval e X.env) :: starEach [] X.env := by rfl) (hpl : (backTo pos (starEach [] X.env)).any (·.1) = false := by rfl) :
    PE X (.Call (.Name "list" p) [e] [] pos) (upF G (wListOf we)) :=
  pe_weak (pe_callTy call_list_of hg hm boot_list (pa_cons ha pa_nil he) (by decide) (by decide) he hpl) fun σ H Q ⟨an, O, ρ, Φ, S, h, q⟩ => by
    refine ⟨an, O, ρ, _, S, h, fun v H1 d h1 im k1 i1 => ?_⟩
    have S1 := S.keep k1 i1
    have fin : ∀ (vs : List V) (ds : List PyData) (l : Addr), H1 l = none → Φ ds → ImA G.W (Nv G.A O) H1 ds vs → Q (.ref l) (upd H1 l (.lst vs)) := fun vs ds l hl hd m =>
      q l _ ds vs hd (S.newAt k1 i1 hl) upd_same (ImA.keep (Keep.new hl) _ _ (ImA.avoid (fun a o e z => z.elim id fun z => by rw [z, hl] at e; cases e) _ _ m)) (k1.trans (Keep.new hl)) (S1.newI hl)
    cases d with
    | list xs =>
      obtain ⟨a, vs, rfl, r, n, m⟩ := im
      exact ⟨a, vs, rfl, .inl (by rw [hK]; exact .inl (.inl r)), fun l hl => fin vs xs l hl h1 m⟩
    | tuple xs =>
      obtain ⟨a, vs, rfl, r, m⟩ := im
      exact ⟨a, vs, rfl, .inr (by rw [hK]; exact r), fun l hl => fin vs xs l hl h1 m⟩
    | _ => exact h1.elim
end
/-- a def's fresh list (arguments and items without lists), the drawn state in slot i -/
def wGRF (i : Nat) (F : FD) (n : Nat) (wr : WA) : WF := fun ρ Φ => match nth ρ i with
  | .m => (wr ρ fun xs => xs.length + 1 = n ∧ lstFreeA xs = true ∧ F xs fun d => ∃ ds, d = .list ds ∧ lstFreeA ds = true ∧ Φ ds)
  | _ => False
section
variable {X : Cx} {G : Gx} {pos p : Pos} {es : List Expr} {wr : WA} {x : Str} {k j : Nat} {ps : List Str} {F : FD} {st : Stmt}
theorem df_callR {RR : Addr → Addr → Res} {b c : Addr} {y : Str} {py : Pos} (i : Nat) (C : Cal X.prog X.w G.W.K X.mg X.base k x st ps (spR G.W RR ps.length F)) (hR : G.R = RR b c) (hK : X.K = G.W.K) (hr : Rg j X.A) (hb : KbS x st ps [] ps.length (List.range ps.length)) (hkj : k ≤ j) (hg : Gl X x)
    (ha : PA X es (upA G true wr)) (hN : X.N[i]? = some y := by rfl) (hv : Vis X.env.scope y := by first | exact Or.inl rfl | exact Or.inr (Or.inl rfl) | exact Or.inr (Or.inr rfl)) (hd : (y == ("__debug__" : Str)) = false := by decide) (hcd : (y == ("__classdict__" : Str)) = false := by decide)
    (hdb : (x == ("__debug__" : Str)) = false := by decide) (he : starEach (.Name y py :: es) X.env = (false, eval (.Name y py) X.env) :: starEach es X.env := by rfl) (hpl : (backTo pos (starEach es X.env)).any (·.1) = false := by rfl) :
    PE X (.Call (.Name x p) (.Name y py :: es) [] pos) (upF G (wGRF i F ps.length wr)) := by
  obtain ⟨f, fd, Fn, hm, Fg⟩ := C.ex
  rw [← hK] at Fn Fg
  refine pe_weak (pe_callGP (E := fun _ _ _ => False) Fg (hr.mono hkj) (Kb.of Fn hb) pass0 hg hm Fn.kp (pa_cons (pe_var hN hv hd hcd) ha he) hdb he hpl) fun σ H Q ⟨an, O, ρ, Φ, S, h, q⟩ => ?_
  have en := S.en i
  unfold wGRF at h
  cases hx : nth ρ i with
  | m =>
    rw [hx] at en h
    refine ⟨.ref G.R.b, en, an, O, ρ, _, S, h, fun vs H1 ds h1 im k1 i1 => ?_⟩
    have S1 := S.keep k1 i1
    obtain ⟨l1, fr, hF⟩ := h1
    have lv : (V.ref G.R.b :: vs).length = ps.length := by rw [List.length_cons, ImA.length im]; exact l1
    refine ⟨lv, rfl, ?_⟩
    rw [List.append_nil, perm_id _ _ lv]
    refine ⟨b, c, fun a => ∃ o, H1 a = some o, ds, vs, _, by rw [hR], lv, by rw [← hR]; exact i1, fun a z => ?_, fun a z => z, ImA.free _ _ fr im, hF, fun v H2 d hd m2 k2 i2 => ?_⟩
    · rw [← hR] at z
      exact G.R.al H1 a i1 z
    · rw [← hR] at k2 i2
      obtain ⟨es2, rfl, fe, hΦ⟩ := hd
      obtain ⟨p2, ws, rfl, r, n, m⟩ := m2
      have n1 : H1 p2 = none := by
        cases z : H1 p2 with
        | none => rfl
        | some o => exact absurd ⟨o, z⟩ n
      exact q p2 H2 es2 ws hΦ (S.newAt k1 i1 n1) r (ImA.free _ _ fe m) (k1.trans k2) i2
  | _ => rw [hx] at h; exact h.elim
end
end DL

namespace DL
open PySem PySem.Spec PyProof.Rows L2

/-- what the module's text says of a class of errors with one attribute -/
structure ErrC (K : PySem.W.Frag) (mg : Str → Option Value) (x fld : Str) (C fI : Addr) (st : Stmt) (fd : FuncData) : Prop where
  at_ : mg x = some (.ref C)
  oex : OexC K C
  no : PySem.W.findIn K (.ref C) fld = some none
  ga : PySem.W.findIn K (.ref C) "__getattribute__" = some (some (.builtin "BaseException.__getattribute__"))
  gg : PySem.W.findIn K (.ref C) "__getattr__" = some none
  hd : PySem.W.hasDictIn K C = true
  ini : PySem.W.findIn K (.ref C) "__init__" = some (some (.ref fI))
  typ : PySem.W.typeIn K (.ref fI) = some (.type "function")
  self : PySem.W.exmOne K (.ref C) (.ref C) = some true
  bnd : Binds K fd ["self", fld] []
/-- __init__(self, fld): self.fld = fld -/
def spE (C : Addr) (fld : Str) : Sp := fun vs H Q _ => ∃ (a : Addr) (v : V), vs = [.ref a, v] ∧ H a = some (exo a C none) ∧ ∀ dx, H dx = none → dx ≠ a → Q .non (upd (upd H dx (exd dx [(fld, v)])) a (exo a C (some dx)))
/-- a class of errors whose __init__ keeps its promise -/
structure CalE (P : Program) (w : World) (K : PySem.W.Frag) (mg : Str → Option Value) (base : Heap) (x fld : Str) (C : Addr) : Prop where
  ex : ∃ (fI : Addr) (st : Stmt) (fd : FuncData), ErrC K mg x fld C fI st fd ∧ FnOk P w K mg base CX0 1 fI fd ["self", fld] (spE C fld)
/-- a def that may raise the error at C -/
abbrev FX := List PyData → (PyData → Prop) → (PyData → Prop) → Prop
def spX (W : Wd) (C : Addr) (fld : Str) (n : Nat) (F : FX) : Sp := fun vs H Q E => ∃ (N : Addr → Prop) (ds : List PyData) (Φ Ψ : PyData → Prop), vs.length = n ∧ (∀ a, N a → ∃ o, H a = some o) ∧ ImA W N H ds vs ∧ F ds Φ Ψ ∧
  (∀ v H' d, Φ d → Im W N H' d v → Keep (fun _ => False) H H' → Q v H') ∧ ∀ v H' d dd, Ψ d → Im W N H' d v → Keep (fun _ => False) H H' → H' dd = some (.xd [(fld, v)]) → E (.ref C) (some dd) H'
structure CalX (P : Program) (w : World) (K : PySem.W.Frag) (mg : Str → Option Value) (base : Heap) (k : Nat) (x : Str) (st : Stmt) (ps : List Str) (sp : Sp) : Prop where
  ex : ∃ (f : Addr) (fd : FuncData), Fun K x x st f fd ∧ mg x = some (.ref f) ∧ FnG P w K mg base (L2.CX P w) k f fd ps sp
section
variable {X : Cx} {G : Gx} {pos p pos2 : Pos} {s : Bool} {e : Expr} {es : List Expr} {we : WE} {wr : WA} {x fld : Str} {k j : Nat} {C : Addr} {E : XK}
def wRaise (Ψ : PyData → Prop) (we : WE) : WS := fun _ ρ => we ρ Ψ
theorem del_keep {H : Hp} {a b : Addr} {o : HO} (h : H b = some o) (ha : H a = none) : b ≠ a := ne_of_none h ha
/-- raise C(e) -/
theorem ds_raise {Ψ : PyData → Prop} (hc : X.calm = true) (tk : L2.Takes X fun cls d _ H => E cls d H) (Cl : CalE X.prog X.w X.K X.mg X.base x fld C) (hr : Rg j X.A) (hj : 2 ≤ j) (hg : Gl X x) (ha : PE X e (up G s we))
    (hE : ∀ v H' d dd, Ψ d → Im G.W G.A H' d v → Keep G.R.M G.H0 H' → H' dd = some (.xd [(fld, v)]) → E (.ref C) (some dd) H')
    (hdb : (x == ("__debug__" : Str)) = false := by decide) (he : starEach [e] X.env = (false, eval e X.env) :: starEach [] X.env := by rfl) (hpl : (backTo pos (starEach [] X.env)).any (·.1) = false := by rfl) :
    PS X (.Raise (some (.Call (.Name x p) [e] [] pos)) none pos2) (upS G (wRaise Ψ we)) := by
  obtain ⟨fI, st, fd, T, F1⟩ := Cl.ex
  refine ps_weak (ps_raise hc tk (pmk_oex T.oex T.ini T.typ F1 (hr.room.mono hj) T.bnd .nil pass0 hg T.at_ (pa_cons ha pa_nil he) hdb he hpl)) fun D σ H ⟨an, O, ρ, W, S, h, _⟩ => ?_
  refine ⟨an, O, ρ, Ψ, S, h, fun v H1 d hd im k1 i1 => ⟨(by show 1 ≤ 1000; decide), fun a hna => ?_⟩⟩
  refine ⟨a, v, rfl, upd_same, fun dx hdx hne => ⟨rfl, dx, [(fld, v)], upd_same, ?_, ?_, ?_⟩⟩
  · rw [upd_ne hne, upd_same]
  · have : (upd H1 a (exo a C none)) dx = H1 dx := upd_ne hne
    rw [← this]; exact hdx
  · have hdx1 : H1 dx = none := by
      have : (upd H1 a (exo a C none)) dx = H1 dx := upd_ne hne
      rw [← this]; exact hdx
    generalize hH : upd (del (upd (upd (upd H1 a (exo a C none)) dx (exd dx [(fld, v)])) a (exo a C (some dx))) a) dx (HO.xd [(fld, v)]) = H2
    have ob : ∀ b o, H1 b = some o → H2 b = some o := fun b o q => by
      have n1 : b ≠ a := ne_of_none q hna
      have n2 : b ≠ dx := ne_of_none q hdx1
      rw [← hH, upd_ne n2, del_ne n1, upd_ne n1, upd_ne n2, upd_ne n1]
      exact q
    have kk : ∀ M : Addr → Prop, Keep M H1 H2 := fun M => ⟨fun b o q _ => ob b o q, fun b xs q => ob b _ q, fun b o u q => ob b _ q⟩
    refine hE v H2 d dx hd (Im.keep (kk _) _ _ (loose im)) ((S.kp.trans k1).trans (kk _)) ?_
    rw [← hH, upd_same]
/-- the attribute of the error that a suite holds -/
def tExAt (C : Addr) (a : Addr) (cls : Value) (d : Option Addr) (fld : Str) (te : TE) : TE := fun σ H Q => te σ H fun z H1 => z = .ref a ∧ cls = .ref C ∧ ∃ (dd : Addr) (v : V), d = some dd ∧ H1 dd = some (.xd [(fld, v)]) ∧ Q v H1
theorem rel_one {v : V} {fs : Str → Option Value} {fld : Str} (h : RelO (List.lookup fld [(fld, v)]) (fs fld)) : ∃ u, fs fld = some u ∧ RelV v u := by
  have l : List.lookup fld [(fld, v)] = some v := by simp [List.lookup]
  rw [l] at h
  exact RelO.some_of (v := v) (o := fs fld) h
theorem pe_exAt {a : Addr} {oe : Obj} {cls : Value} {d : Option Addr} {pn : List (Addr × Obj)} {te : TE} {fI : Addr} {st : Stmt} {fd : FuncData} (T : ErrC X.K X.mg x fld C fI st fd) (hz : Zc cls d oe) (hf : ∃ vs, oe.data = .fields vs) (he : PE (X.suite a ((a, oe) :: pn)) e te)
    (hb : attributeBase e fld X.env (eval e X.env) = eval e X.env := by rfl) : PE (X.suite a ((a, oe) :: pn)) (.Attribute e fld pos) (tExAt C a cls d fld te) := by
  refine ⟨fun pins sh σ H Q I h => attr_of hb (thn (he.run pins sh σ H _ I h) fun u s1 hh => ?_)⟩
  obtain ⟨z, H1, I1, rz, rfl, rfl, dd, v, rfl, ea, q⟩ := hh
  obtain rfl : u = Value.ref a := rz
  have pinned := (I1.pin (a, oe) (List.mem_append_left _ List.mem_cons_self)).1
  obtain ⟨vs, hdat⟩ := hf
  have ok : ObjOk X.prog X.w H1 s1.heap dd (.xd [(fld, v)]) := I1.hok dd _ ea
  obtain ⟨mA, hns, rel⟩ := ok
  obtain ⟨od, ho, hl⟩ := lookIn_ns hns
  obtain ⟨u, hu, ru⟩ := rel_one (rel fld)
  have nc : PySem.W.notCls oe = true := by unfold PySem.W.notCls; rw [hdat] <;> rfl
  have J : PySem.W.InstAt s1.heap a oe C (some od) := ⟨pinned, hz.1, nc, by rw [hz.2]; exact ho⟩
  exact PySem.HandSPX.exc_get I1.kIn J T.ga T.gg T.oex.exC
    (PySem.W.findObj_own T.hd T.no rfl (by rw [hl, hu])) (handed_of ru) ⟨v, H1, I1.tok _, ru, q⟩
end
/-- a call whose exceptions are wished for -/
theorem pe_callGX {X : Cx} {pos p : Pos} {e : Expr} {es : List Expr} {x : Str} {k n : Nat} {f : Addr} {fd : FuncData} {ps : List Str} {sp : Sp} {idx : List Nat} {CX : CXT} {E : L2.St → XK} {t : TA} (Fn : FnG X.prog X.w X.K X.mg X.base CX k f fd ps sp) (hr : Rg k X.A) (hb : Kb X.K fd ps [] n idx)
    (hx : ∀ σ, L2.PassesAt CX X σ (E σ)) (hg : Gl X x) (hm : X.mg x = some (.ref f)) (hk : PySem.W.keepIn X.K (.ref f) = true) (ha : PA X (e :: es) t)
    (hdb : (x == ("__debug__" : Str)) = false := by decide) (he : starEach (e :: es) X.env = (false, eval e X.env) :: starEach es X.env := by rfl) (hpl : (backTo pos (starEach es X.env)).any (·.1) = false := by rfl) :
    PE X (.Call (.Name x p) (e :: es) [] pos) (fun σ H Q => t σ H fun vs H1 => vs.length = n ∧ sp (perm idx vs) H1 Q (E σ)) := ⟨fun pins sh σ H Q I h => by
  refine wpAny_Call_Name_kw (ld_glob I hg hm ?_ hdb)
  refine PySem.W.callWith_K (h₀ := X.base) I.ok.mod.kin hk (thn (ha.run pos pins sh σ H _ I h) fun us s1 ⟨vs, H1, I1, r, l1, q⟩ => ⟨I1.kIn, ?_⟩) he hpl
  have b := hb.to us [] (r.length.symm.trans l1) rfl
  rw [List.append_nil] at b
  refine wpAny_call (codeAny_mono (Fn.goes X.A X.stack s1 H1 ⟨us, []⟩ _ _ _ (E σ) hr I1.env0 (.of_eq b) (vals_perm r idx) q) fun res s2 hq => ?_)
  rcases res with er | fl
  · exact hx σ pins H1 s1 er s2 I1 hq
  · cases fl <;> first | exact I1.after hq | exact False.elim hq⟩
section
variable {P : Program} {w : World} {mg : Str → Option Value} {base : Heap} {W : Wd} {k : Nat} {f C : Addr} {fd : FuncData} {ps N : List Str} {x qual fld : Str} {st : Stmt} {F : FX}
/-- a def that takes data and gives data or raises -/
theorem ok_raises (Fn : Fun W.K x qual st f fd) (S : FnScope N ps (defScope st)) (hn : ps.length ≤ N.length) (len : ∀ ds Φ Ψ, F ds Φ Ψ → ds.length = ps.length)
    (body : ∀ (cdv : Value) (A : Around) (env : List Env) (s : Shared) (H : Hp) (E : XK) (N0 : Addr → Prop) (Ψ : PyData → Prop), Rg k (A.deeper (envOfC qual (defScope st) s.heap.objs.size f cdv)) →
      (∀ v H' d dd, Ψ d → Im W N0 H' d v → Keep (fun _ => False) H H' → H' dd = some (.xd [(fld, v)]) → E (.ref C) (some dd) H') →
      ∃ ws, PSs (cxOf (L2.CX P w) P w W.K mg base N qual (defScope st) f cdv A env s H E) (defBody st) (upS ⟨W, Res.none, N0, H⟩ ws) ∧ ∀ ds Φ, F ds Φ Ψ → ws (retX Φ) (ev0 N.length ds)) :
    FnG P w W.K mg base (L2.CX P w) (k + 1) f fd ps (spX W C fld ps.length F) := by
  refine FnG.mk' Fn S (fun vs H Q E h => ?_) fun cdv A env s H vs Q E hr h => ?_
  · obtain ⟨N', ds, Φ, Ψ, hl, _⟩ := h
    exact hl
  · obtain ⟨N', ds, Φ, Ψ, hl, al, im, hF, q, hE⟩ := h
    obtain ⟨ws, pt, hw⟩ := body cdv A env s H E N' Ψ hr hE
    refine ⟨_, pt, [], _, _, retX Φ, sta_start (P := True) (by have := len ds Φ Ψ hF; omega) True.intro al (fun a z => z.elim) im, hw ds Φ hF, ?_, ?_, ?_, ?_⟩
    · exact fun O2 σ2 H2 ρ2 S2 z => q .non H2 .none z rfl S2.kp
    · exact fun v H2 d z m kk _ => q v H2 d z m kk
    · exact fun O2 σ2 H2 ρ2 S2 z => z
    · exact fun O2 σ2 H2 ρ2 S2 z => z
end
end DL

namespace DL
open PySem PySem.Spec PyProof.Rows L2

theorem passX {X : Cx} {w : World} {P : Program} : Passes (L2.CX P w) X (fun _ _ _ => False) := fun pins σ H s e s' I c => by
  obtain ⟨a, B, H', cls, d, _, _, _, _, _, _, _, z⟩ := c
  exact z.elim
def noRaise (F : FX) : FD := fun ds Φ => F ds Φ fun _ => False
section
variable {X : Cx} {G : Gx} {pos p : Pos} {s : Bool} {e : Expr} {es : List Expr} {wr wk : WA} {kws : List Keyword} {x fld : Str} {k n j : Nat} {C : Addr} {ps ks : List Str} {F : FX} {idx : List Nat} {st : Stmt}
theorem up_X {m : Nat} {E : XK} (hp : (perm idx (List.range (n + m))).length = ps.length) (σ : L2.St) (H : Hp) (Q : VK) (h : up G s (wG (noRaise F) n m idx wr wk) σ H Q) : tG (spX G.W C fld ps.length F) n m idx (fun _ _ _ => False) (upA G s wr) (upA G s wk) σ H Q := by
  obtain ⟨an, O, ρ, Φ, S, h, q⟩ := h
  refine ⟨an, O, ρ, _, S, h, fun vs H1 ds h1 im k1 i1 => ?_⟩
  have S1 := S.keep k1 i1
  refine ⟨an, O, ρ, _, S1, h1, fun zs H2 es h2 im2 k2 i2 => ?_⟩
  have S2 := S1.keep k2 i2
  obtain ⟨l1, l2, hF⟩ := h2
  have ia := ImA.append (S1.ima k2 im) im2
  have lp : (perm idx (vs ++ zs)).length = ps.length := by
    rw [perm_len, List.length_append, ImA.length im, ImA.length im2, l1, l2]
    exact hp
  refine ⟨(ImA.length im).trans l1, (ImA.length im2).trans l2, Nn G O s, _, Φ, fun _ => False, lp, fun a z => S2.there (nn_v z), ImA.perm ia idx, hF, fun v H3 d hd im3 k3 => ?_, fun _ _ _ _ z => z.elim⟩
  have k3' : Keep G.R.M H2 H3 := k3.mono fun a z => z.elim
  exact q v H3 d hd im3 ((k1.trans k2).trans k3') (G.R.st _ _ i2 fun a o _ e => k3.ob a o e id)
theorem de_callXP (Cl : CalX X.prog X.w G.W.K X.mg X.base k x st ps (spX G.W C fld ps.length F)) (hK : X.K = G.W.K) (hr : Rg j X.A) (hb : KbS x st ps [] n idx) (hkj : k ≤ j) (hg : Gl X x) (ha : PA X (e :: es) (upA G s wr)) (hp : (perm idx (List.range (n + 0))).length = ps.length := by rfl)
    (hdb : (x == ("__debug__" : Str)) = false := by decide) (he : starEach (e :: es) X.env = (false, eval e X.env) :: starEach es X.env := by rfl) (hpl : (backTo pos (starEach es X.env)).any (·.1) = false := by rfl) :
    PE X (.Call (.Name x p) (e :: es) [] pos) (up G s (wG (noRaise F) n 0 idx wr wNil)) := by
  obtain ⟨f, fd, Fn, hm, Fg⟩ := Cl.ex
  rw [← hK] at Fn Fg
  refine pe_weak (pe_callGP (E := fun _ _ _ => False) Fg (hr.mono hkj) (Kb.of Fn hb) passX hg hm Fn.kp ha hdb he hpl) fun σ H Q h => ?_
  obtain ⟨an, O, ρ, Φ, S, h, q⟩ := up_X (E := fun _ _ _ => False) hp σ H Q h
  refine ⟨an, O, ρ, _, S, h, fun vs H1 ds h1 im k1 i1 => ?_⟩
  obtain ⟨an2, O2, ρ2, Φ2, S2, h2, q2⟩ := q vs H1 ds h1 im k1 i1
  exact q2 [] H1 [] h2 rfl (Keep.refl _) S2.inv
theorem de_callX0 (Cl : CalX X.prog X.w G.W.K X.mg X.base k x st ps (spX G.W C fld ps.length F)) (hK : X.K = G.W.K) (hr : Rg j X.A) (hb : KbS x st ps ks 0 idx) (hkj : k ≤ j) (hg : Gl X x) (hkw : PK X kws (upA G s wk)) (hp : (perm idx (List.range (0 + ks.length))).length = ps.length := by rfl)
    (hall : (backToKw pos (keywordEach kws X.env)).all (·.1.isSome) = true := by rfl) (hks : (backToKw pos (keywordEach kws X.env)).filterMap (·.1) = ks := by rfl) (hdb : (x == ("__debug__" : Str)) = false := by decide)
    (hpl : ((backTo pos (starEach [] X.env)).any (·.1) || (backToKw pos (keywordEach kws X.env)).any (·.1.isNone)) = false := by rfl) :
    PE X (.Call (.Name x p) [] kws pos) (up G s (wG (noRaise F) 0 ks.length idx wNil wk)) := by
  obtain ⟨f, fd, Fn, hm, Fg⟩ := Cl.ex
  rw [← hK] at Fn Fg
  refine pe_weak (pe_callG0 (E := fun _ _ _ => False) Fg (hr.mono hkj) (Kb.of Fn hb) passX hg hm Fn.kp hkw hall hks hdb hpl) fun σ H Q h => ?_
  obtain ⟨an, O, ρ, Φ, S, h, q⟩ := up_X (E := fun _ _ _ => False) hp σ H Q h
  exact q [] H [] h rfl (Keep.refl _) S.inv
end
theorem de_dict0 {X : Cx} {G : Gx} {s : Bool} {pos : Pos} : PE X (.Dict [] [] pos) (up G s (wC (.dict []))) := pe_weak pe_dnewK fun σ H Q ⟨an, O, ρ, Φ, S, h, q⟩ =>
  fun p hp => q _ _ _ h (.inl ⟨p, rfl, S.fresh hp, .inl ⟨rfl, upd_same⟩⟩) (Keep.new hp) (S.newI hp)
end DL

namespace DL
open PySem PySem.Spec PyProof.Rows L2

/-- a sequence of either kind: true for a tuple -/
def SqB (t : Bool) (K : PySem.W.Frag) (H : Hp) (a : Addr) (xs : List V) : Prop := match t with | true => SqT K H a xs | false => SqL K H a xs
def ItB (t : Bool) (h : Heap) (it l : Addr) (i : Nat) : Prop := match t with | true => h.IsTupleIter it l i | false => h.IsListIter it l i
def SeB (t : Bool) (h : Heap) (l : Addr) (xs : Array Value) : Prop := match t with | true => h.IsTuple l xs | false => h.IsList l xs
def obB (t : Bool) (l : Addr) : Obj := match t with | true => { cls := .type "tuple_iterator", data := .fields #[.ref l, .int 0 0] } | false => { cls := .type "list_iterator", data := .fields #[.ref l, .int 0 0] }
theorem ItB.to {t : Bool} {h h' : Heap} {it l : Addr} {i : Nat} (x : ItB t h it l i) (k : ∀ o, h.get? it = some o → h'.get? it = some o) : ItB t h' it l i := by
  cases t
  · exact Heap.IsListIter.at x k
  · exact Heap.IsTupleIter.at x k
theorem ItB.ob {t : Bool} {h : Heap} {it l : Addr} {i : Nat} (x : ItB t h it l i) : ∃ o fs, h.get? it = some o ∧ o.data = .fields fs := by
  cases t
  · obtain ⟨o, e, _, d⟩ := x; exact ⟨o, _, e, d⟩
  · obtain ⟨o, e, _, d⟩ := x; exact ⟨o, _, e, d⟩
theorem SeB.lt {t : Bool} {h : Heap} {l : Addr} {xs : Array Value} (x : SeB t h l xs) : l < h.objs.size := by
  cases t
  · obtain ⟨o, e, _⟩ := x; exact Heap.lt_size e
  · obtain ⟨o, e, _⟩ := x; exact Heap.lt_size e
theorem drawsB {prog : Program} {w : World} {A : Around} (t : Bool) (hh : A.handled = none) (it l : Addr) (ne : l ≠ it) (xs : Array Value) :
    Draws prog w A it [it, l] xs.size (fun i v => xs[i]? = some v) (fun i h => ItB t h it l i ∧ SeB t h l xs) := by
  cases t
  · exact Draws.list hh it l ne xs
  · exact Draws.tuple hh it l ne xs
theorem drawsE {prog : Program} {w : World} {A : Around} (t : Bool) (hh : A.handled = none) (it l : Addr) (ne : l ≠ it) (xs : Array Value) (i : Nat) : ∃ (n : Nat) (P : Nat → Value → Prop) (St : Nat → Heap → Prop),
    Draws prog w A it [it, l] n P St ∧ i ≤ n ∧ (xs.size ≤ i → i = n) ∧ ∀ h, ItB t h it l i → SeB t h l xs → St i h := by
  by_cases hi : i < xs.size
  · exact ⟨_, _, _, drawsB t hh it l ne xs, Nat.le_of_lt hi, fun q => absurd hi (by omega), fun h a b => ⟨a, b⟩⟩
  · refine ⟨i, fun _ _ => False, fun j h => j = i ∧ ItB t h it l i ∧ SeB t h l xs, ⟨fun j h st => ?_, fun j h h' st k => ?_, fun j s Q E hj st _ => absurd st.1 (by omega), fun s Q E st hE => ?_⟩, Nat.le_refl _, fun _ => rfl, fun h a b => ⟨rfl, a, b⟩⟩
    · obtain ⟨o, _, e, _⟩ := st.2.1.ob; exact ⟨o, e⟩
    · refine ⟨st.1, st.2.1.to fun o e => k it (by simp) o e, ?_⟩
      have z := st.2.2
      cases t
      · exact Heap.IsList.at z fun o e => k l (by simp) o e
      · exact Heap.IsTuple.at z fun o e => k l (by simp) o e
    · have out : xs[i]? = none := by simp; omega
      obtain ⟨_, a, b⟩ := st
      cases t
      · exact wpAny_nextOf_list_end hh a b out hE
      · exact wpAny_nextOf_tuple_end hh a b out hE
theorem beginsB (t : Bool) (l : Addr) (xs : Array Value) : Begins (.ref l) (obB t l) fun h => SeB t h l xs := by
  cases t
  · exact begins_list l xs
  · exact begins_tuple l xs
theorem itB_new {t : Bool} {h : Heap} {it l : Addr} (e : h.get? it = some (obB t l)) : ItB t h it l 0 := by
  cases t
  · exact ⟨_, e, rfl, rfl⟩
  · exact ⟨_, e, rfl, rfl⟩
theorem seqB {X : Cx} {pins : List (Addr × Obj)} {σ : L2.St} {H : Hp} {s : Shared} {a : Addr} {xs : List V} {t : Bool} (I : Inv X pins σ H s) (h : SqB t X.K H a xs) : ∃ its : List Value, Vals xs its ∧ SeB t s.heap a its.toArray := by
  cases t
  · obtain ⟨its, rv, p, _⟩ := I.list h; exact ⟨its, rv, p.isList⟩
  · obtain ⟨its, rv, p, _⟩ := I.tuple h; exact ⟨its, rv, p⟩
theorem injB {X : Cx} {pins : List (Addr × Obj)} {σ : L2.St} {H : Hp} {s : Shared} {a : Addr} {xs ys : List V} {t : Bool} (I : Inv X pins σ H s) (h : SqB t X.K H a xs) (h' : SqB t X.K H a ys) : xs = ys := by
  cases t
  · exact I.list_inj h h'
  · exact I.tuple_inj h h'
/-- the two as they stand at each turn -/
def ItM (K : PySem.W.Frag) (t u : Bool) (a b : Addr) : It :=
  ⟨fun i H => ∃ (xs ys : List V) (x y : V), SqB t K H a xs ∧ SqB u K H b ys ∧ xs[i]? = some x ∧ ys[i]? = some y,
    fun i H v H' => ∃ T x y, v = .ref T ∧ H T = none ∧ H' = upd H T (.tup [x, y]) ∧ (∀ xs, SqB t K H a xs → xs[i]? = some x) ∧ ∀ ys, SqB u K H b ys → ys[i]? = some y,
    fun i H => ∃ xs ys : List V, SqB t K H a xs ∧ SqB u K H b ys ∧ (xs.length ≤ i ∨ ys.length ≤ i)⟩
theorem turn_M {P : Program} {w : World} {K : PySem.W.Frag} {elts : List Expr} {kk : Nat} {tpos : Pos} {t u : Bool} {a b z TI TO i1 i2 : Addr} (D : ZipSep2 z TI TO i1 i2 [i1, a] [i2, b]) (na : a ≠ i1) (nb : b ≠ i2) :
    Turn P w K (.Tuple elts kk tpos) (ItM K t u a b) [z, TI, TO, i1, i2] z (fun i h => IsZip h z TI TO .none ∧ IsTupOf2 h TI (.ref i1) (.ref i2) ∧ (∃ x y, IsTupOf2 h TO x y) ∧ ItB t h i1 a i ∧ ItB u h i2 b i) where
  mem := by simp
  obj := fun i h ⟨hz, hI, ⟨x, y, hO⟩, j1, j2⟩ c hc => by
    have e' : c = z ∨ c = TI ∨ c = TO ∨ c = i1 ∨ c = i2 := by simpa using hc
    rcases e' with rfl | rfl | rfl | rfl | rfl
    · exact ⟨_, hz, fun v q => nomatch q⟩
    · exact ⟨_, hI, fun v q => nomatch q⟩
    · exact ⟨_, hO, fun v q => nomatch q⟩
    · obtain ⟨o, fs, e, d⟩ := j1.ob; exact ⟨o, e, fun v q => by rw [d] at q; cases q⟩
    · obtain ⟨o, fs, e, d⟩ := j2.ob; exact ⟨o, e, fun v q => by rw [d] at q; cases q⟩
  keep := fun i h h' ⟨hz, hI, ⟨x, y, hO⟩, j1, j2⟩ k => ⟨k z (by simp) _ hz, k TI (by simp) _ hI, ⟨x, y, k TO (by simp) _ hO⟩, j1.to (k i1 (by simp)), j2.to (k i2 (by simp))⟩
  item := by
    intro X hP hw hK hc i pins s σ H E I hf st hg
    subst hP hw hK
    obtain ⟨hz, hI, ⟨x0, y0, hO⟩, j1, j2⟩ := st
    obtain ⟨xs, ys, x, y, q1, q2, hx, hy⟩ := hg
    obtain ⟨as, r1, p1⟩ := seqB I q1
    obtain ⟨bs, r2, p2⟩ := seqB I q2
    obtain ⟨m1, hu1, ru1⟩ := r1.get hx
    obtain ⟨m2, hu2, ru2⟩ := r2.get hy
    have zl : z < s.heap.objs.size := Heap.lt_size hz
    have l1 : i < as.toArray.size := by have := (List.getElem?_eq_some_iff.mp hu1).1; simpa using this
    have l2 : i < bs.toArray.size := by have := (List.getElem?_eq_some_iff.mp hu2).1; simpa using this
    refine wpAny_pyNext_zipD2_item D (drawsB (A := X.A.in1) t (I.ok.hd hc) i1 a na as.toArray) (drawsB (A := X.A.in1) u (I.ok.hd hc) i2 b nb bs.toArray) hz hI hO ⟨j1, p1⟩ ⟨j2, p2⟩ l1 l2 fun v1 v2 h' tk e1 e2 hz' hO' k1 k2 hT _ hk => ?_
    have e1 : some m1 = some v1 := hu1.symm.trans (by simpa using e1)
    have e2 : some m2 = some v2 := hu2.symm.trans (by simpa using e2)
    cases e1
    cases e2
    refine ⟨_, rfl, wpAny_letOwnedTupleGo_zip (s := { s with heap := h', toks := tk }) hz' fun h2 hz2 sb => ?_⟩
    have hT2 : h2.get? s.heap.objs.size = some { cls := .type "tuple", data := .seq #[m1, m2] } := (sb.2 _ (Nat.ne_of_gt zl)).trans hT
    have nw : ObjOk X.prog X.w (upd H s.heap.objs.size (.tup [x, y])) h2 s.heap.objs.size (.tup [x, y]) := ⟨(by decide : 2 ≤ sizeLine), [m1, m2], .cons ru1 (.cons ru2 .nil), ⟨_, hT2, rfl, _, rfl⟩⟩
    have to2 : ∀ c o, c ≠ z → h'.get? c = some o → h2.get? c = some o := fun c o n e => (sb.2 c n).trans e
    have I1 : Inv X pins σ (upd H s.heap.objs.size (.tup [x, y])) { s with heap := h2, toks := tk } :=
      I.turnedNew (t' := tk) (ch := [z, TI, TO, i1, i2]) (fun c o hb q => to2 c o (fun e => hb (by simp [e])) (hk c o (fun e => hb (by simp [e])) (fun e => hb (by simp [e])) (fun e => hb (by simp [e])) (fun e => hb (by simp [e])) q)) hf (Nat.le_refl _) nw
    refine ⟨.ref s.heap.objs.size, _, I1, rfl, ⟨_, x, y, rfl, I.hok.fresh (Nat.le_refl _), rfl, fun l hl => by rw [injB I hl q1]; exact hx, fun l hl => by rw [injB I hl q2]; exact hy⟩, ⟨hz2, ?_, ⟨m1, m2, to2 _ _ D.TOz hO'⟩, k1.1.to fun o => to2 _ o D.zi1.symm, k2.1.to fun o => to2 _ o D.zi2.symm⟩, fun c hcm => ?_⟩
    · exact to2 _ _ D.TIz (hk _ _ D.TIz D.TITO D.TIi1 D.TIi2 hI)
    · have hlt : c < s.heap.objs.size := by
        have e' : c = z ∨ c = TI ∨ c = TO ∨ c = i1 ∨ c = i2 := by simpa using hcm
        rcases e' with rfl | rfl | rfl | rfl | rfl
        · exact zl
        · exact Heap.lt_size hI
        · exact Heap.lt_size hO
        · obtain ⟨_, _, e, _⟩ := j1.ob; exact Heap.lt_size e
        · obtain ⟨_, _, e, _⟩ := j2.ob; exact Heap.lt_size e
      rw [upd_ne (Nat.ne_of_lt hlt)]
      exact (hf c hcm).1
  done := by
    intro X hP hw hK hc i pins s σ H E I hf st hg
    subst hP hw hK
    obtain ⟨hz, hI, ⟨x0, y0, hO⟩, j1, j2⟩ := st
    obtain ⟨xs, ys, q1, q2, hend⟩ := hg
    obtain ⟨as, r1, p1⟩ := seqB I q1
    obtain ⟨bs, r2, p2⟩ := seqB I q2
    have l1 : xs.length = as.toArray.size := by rw [r1.length]; simp
    have l2 : ys.length = bs.toArray.size := by rw [r2.length]; simp
    obtain ⟨n1, P1, S1, D1, g1, f1, s1⟩ := drawsE (prog := X.prog) (w := X.w) (A := X.A.in1) t (I.ok.hd hc) i1 a na as.toArray i
    obtain ⟨n2, P2, S2, D2, g2, f2, s2⟩ := drawsE (prog := X.prog) (w := X.w) (A := X.A.in1) u (I.ok.hd hc) i2 b nb bs.toArray i
    exact wpAny_pyNext_zipD2_end D D1 D2 hz hI hO (s1 _ j1 p1) (s2 _ j2 p2) g1 g2 (hend.imp (fun e => f1 (l1 ▸ e)) fun e => f2 (l2 ▸ e)) fun h' tk hk => ⟨rfl, I.turnedL (t' := tk) (ch := [z, TI, TO, i1, i2]) (fun c o hb q =>
      hk c o (fun e => hb (by simp [e])) (fun e => hb (by simp [e])) (fun e => hb (by simp [e])) (fun e => hb (by simp [e])) q) hf⟩
  self := fun A i s Q E st h => wpAny_pyIter_zip st.1 h
def iM (K : PySem.W.Frag) (ta : TA) : TI := fun σ H R => ta σ H fun vs H1 => ∃ t u a b xs ys, vs = [.ref a, .ref b] ∧ SqB t K H1 a xs ∧ SqB u K H1 b ys ∧ R (ItM K t u a b) H1
theorem pi_M {X : Cx} {e e2 : Expr} {ta : TA} {p pos tpos : Pos} {elts : List Expr} {kk : Nat} (hg : Gl X "zip") (hm : X.mg "zip" = none) (ha : PA X [e, e2] ta)
    (hs : starEach [e, e2] X.env = (false, eval e X.env) :: starEach [e2] X.env := by rfl) (hpl : (backTo pos (starEach [e2] X.env)).any (·.1) = false := by rfl) :
    PI X (.Tuple elts kk tpos) (.Call (.Name "zip" p) [e, e2] [] pos) (iM X.K ta) := ⟨fun pins s σ H R I h => by
  refine Call_ (ld_blt I hg hm PyProof.Rows.boot_zip (PyProof.Rows.callWith_type1 (thn (ha.run pos pins s σ H _ I h) fun us s1 ⟨vs, H1, I1, r1, t, u, a, b, xs, ys, ex, q1, q2, q⟩ => ?_) hs hpl))
  subst ex
  obtain ⟨_, _, rfl, ra, rb⟩ : ∃ a' b', us = [a', b'] ∧ RelV (.ref a) a' ∧ RelV (.ref b) b' := by
    cases r1 with
    | cons r rr => cases rr with
      | cons r' rr => cases rr; exact ⟨_, _, rfl, r, r'⟩
  cases ra
  cases rb
  obtain ⟨as, rv1, p1⟩ := seqB I1 q1
  obtain ⟨bs, rv2, p2⟩ := seqB I1 q2
  have D := zip_sep2 (N := s1.heap.objs.size) (fp1 := [a]) (fp2 := [b]) (fun x hx => by rw [List.mem_singleton.mp hx]; exact p1.lt) (fun x hx => by rw [List.mem_singleton.mp hx]; exact p2.lt)
  refine zip_begins2 (beginsB t a as.toArray) (beginsB u b bs.toArray) p1 p2 fun h' hz hI hO g1 g2 hsz hk => wpAny_pyIter_zip hz ?_
  have nb : b ≠ s1.heap.objs.size + 1 := Nat.ne_of_lt (Nat.lt_succ_of_lt p2.lt)
  refine ⟨s1.heap.objs.size + 4, [s1.heap.objs.size + 4, s1.heap.objs.size + 2, s1.heap.objs.size + 3, s1.heap.objs.size, s1.heap.objs.size + 1], _, _, H1, rfl, I1.kept (t' := s1.toks) hk, turn_M (t := t) (u := u) D (Nat.ne_of_lt p1.lt) nb, ⟨hz, hI, ⟨_, _, hO⟩, itB_new g1, itB_new g2⟩, fun c hcm => ?_, q⟩
  have e' : c = s1.heap.objs.size + 4 ∨ c = s1.heap.objs.size + 2 ∨ c = s1.heap.objs.size + 3 ∨ c = s1.heap.objs.size ∨ c = s1.heap.objs.size + 1 := by simpa using hcm
  have hle : s1.heap.objs.size ≤ c := by rcases e' with z | z | z | z | z <;> rw [z] <;> first | exact Nat.le_add_right _ _ | exact Nat.le_refl _
  exact I1.fpOk hle (I1.hok.fresh hle)⟩
def sqD (t : Bool) (xs : List PyData) : PyData := match t with | true => .tuple xs | false => .list xs
theorem sqD_im {W : Wd} {N : Addr → Prop} {H : Hp} {t : Bool} {xs : List PyData} {v : V} (h : Im W N H (sqD t xs) v) : ∃ a vs, v = .ref a ∧ SqB t W.K H a vs ∧ ImA W N H xs vs := by
  cases t
  · obtain ⟨a, vs, e, r, _, m⟩ := h; exact ⟨a, vs, e, .inl (.inl r), m⟩
  · obtain ⟨a, vs, e, r, m⟩ := h; exact ⟨a, vs, e, r, m⟩
theorem sqB_inj {W : Wd} {N : Addr → Prop} {H : Hp} {t : Bool} {xs : List PyData} {a : Addr} (h : Im W N H (sqD t xs) (.ref a)) : ∃ vs, SqB t W.K H a vs ∧ ImA W N H xs vs := by
  obtain ⟨b, vs, e, r, m⟩ := sqD_im h
  cases e
  exact ⟨vs, r, m⟩
theorem src_M {W : Wd} {t u : Bool} {as bs : List PyData} {a b : Addr} : SrcV W (ItM W.K t u a b) (zipD as bs) [(sqD t as, .ref a), (sqD u bs, .ref b)] := fun N H i hp => by
  obtain ⟨xs, r, m⟩ := sqB_inj (hp _ List.mem_cons_self)
  obtain ⟨ys, r2, m2⟩ := sqB_inj (hp _ (List.mem_cons_of_mem _ List.mem_cons_self))
  have l1 := ImA.length m
  have l2 := ImA.length m2
  rw [zipD_len]
  refine ⟨fun hi => ?_, fun hi => ⟨xs, ys, r, r2, by omega⟩⟩
  obtain ⟨x, hx, ix⟩ := seq_at m (i := i) (by omega)
  obtain ⟨y, hy, iy⟩ := seq_at m2 (i := i) (by omega)
  refine ⟨⟨xs, ys, x, y, r, r2, hx, hy⟩, fun v H2 z => ?_⟩
  obtain ⟨T, x', y', rfl, hT, rfl, f1, f2⟩ := z
  cases (f1 xs r).symm.trans hx
  cases (f2 ys r2).symm.trans hy
  refine ⟨Keep.new hT, fun d hd => ?_⟩
  rw [zipD_get (List.getElem?_eq_getElem (by omega)) (List.getElem?_eq_getElem (by omega))] at hd
  cases hd
  exact im_pair hT ix iy
def seqOfD : PyData → Option (Bool × List PyData)
  | .tuple xs => some (true, xs)
  | .list xs => some (false, xs)
  | _ => none
theorem seqOfD_eq {d : PyData} {t : Bool} {xs : List PyData} (h : seqOfD d = some (t, xs)) : d = sqD t xs := by
  unfold seqOfD at h
  split at h <;> first | cases h; rfl | cases h
def wZipM (wr : WA) : WI := fun ρ Φ => wr ρ fun ds => ∃ d e t u as bs, ds = [d, e] ∧ seqOfD d = some (t, as) ∧ seqOfD e = some (u, bs) ∧ Φ (zipD as bs)
variable {X : Cx} {G : Gx} {pos p : Pos} {s : Bool} {e e2 : Expr} {wr : WA}
theorem di_zipM {p tpos : Pos} {elts : List Expr} {kk : Nat} (hK : X.K = G.W.K) (hg : Gl X "zip") (hm : X.mg "zip" = none) (ha : PA X [e, e2] (upA G s wr)) (hs : starEach [e, e2] X.env = (false, eval e X.env) :: starEach [e2] X.env := by rfl) (hpl : (backTo pos (starEach [e2] X.env)).any (·.1) = false := by rfl) :
    PI X (.Tuple elts kk tpos) (.Call (.Name "zip" p) [e, e2] [] pos) (upI G s (wZipM wr)) := pi_weak (pi_M hg hm ha hs hpl) fun σ H R ⟨an, O, ρ, Φ, S, hw, q⟩ => by
  refine ⟨an, O, ρ, _, S, hw, fun vs H1 ds h1 im k1 i1 => ?_⟩
  rw [hK]
  obtain ⟨d, e, t, u, as, bs, rfl, h1, h2, hΦ⟩ := h1
  obtain rfl := seqOfD_eq h1
  obtain rfl := seqOfD_eq h2
  obtain ⟨v, v', rfl, m1, m2⟩ := im2 im
  obtain ⟨a, xs, rfl, r, m⟩ := sqD_im m1
  obtain ⟨b, ys, rfl, r2, m'⟩ := sqD_im m2
  refine ⟨t, u, a, b, xs, ys, rfl, r, r2, q _ H1 _ _ hΦ src_M (fun p hp => ?_) k1 i1⟩
  rcases List.mem_cons.mp hp with rfl | hp
  · exact m1
  · rw [List.mem_singleton.mp hp]; exact m2
end DL

namespace DL
open PySem PySem.Spec PyProof.Rows L2

def rAnyI (K : PySem.W.Frag) : List V → Hp → VK → Prop := fun vs H Q => ∃ (a : Addr) (ns : List Int), vs = [.ref a] ∧ SqT K H a (ns.map .int) ∧ Q (.bl (ns.any fun n => n != 0)) H
theorem reads_ints {h : Heap} : ∀ {ns : List Int} {us : List Value}, Vals (ns.map V.int) us → ∃ as, ReadsAll h us (ns.map .int) as
  | [], _, r => by cases r; exact ⟨_, .nil⟩
  | n :: ns, _, r => by
    cases r with
    | cons r1 r2 =>
      obtain ⟨t, rfl⟩ := r1
      obtain ⟨as, q⟩ := reads_ints r2
      exact ⟨_, .cons (.int n t) q⟩
theorem plain_ints : ∀ ns : List Int, PyData.plainAll (ns.map .int) = true
  | [] => rfl
  | n :: ns => by
    show (true && PyData.plainAll (ns.map .int)) = true
    rw [plain_ints ns]
    rfl
theorem cr_anyI {X : Cx} (hc : X.calm = true) : CallR X (.builtin "any") (rAnyI X.K) := by
  intro pins s σ H vs us Q I r h
  obtain ⟨a, ns, rfl, hs, q⟩ := h
  obtain ⟨its, rv, p, _⟩ := I.tuple hs
  rw [Vals.ref1 r]
  obtain ⟨as, rd⟩ := reads_ints (h := s.heap) rv
  refine PySem.W.any_tuple_data (I.ok.hd hc) p (by simpa using rd) (plain_ints ns) (fun x hx => ?_) fun h' tk hk => ?_
  · obtain ⟨n, _, rfl⟩ := List.mem_map.mp hx
    exact True.intro
  · refine ⟨.bl _, H, I.kept hk, ?_, q⟩
    show Value.bool _ = Value.bool _
    rw [List.any_map]
    rfl
def fAnyU : List PyData → (PyData → Prop) → Prop := fun ds Φ => fAny ds Φ ∨ ∃ ns : List Int, ds = [.tuple (ns.map .int)] ∧ Φ (.bool (ns.any fun n => n != 0))
def rAnyU (K : PySem.W.Frag) : List V → Hp → VK → Prop := fun vs H Q => rAny K vs H Q ∨ rAnyI K vs H Q
theorem cr_anyU {X : Cx} (hc : X.calm = true) : CallR X (.builtin "any") (rAnyU X.K) := fun pins s σ H vs us Q I r h => h.elim (cr_any hc pins s σ H vs us Q I r) (cr_anyI hc pins s σ H vs us Q I r)
theorem cd_anyU {G : Gx} {s s1 : Bool} : CallD G s s1 (rAnyU G.W.K) fAnyU := by
  intro an O σ ρ H vs ds Φ Q S hv hf q
  rcases hf with hf | ⟨ns, rfl, hf⟩
  · exact .inl (cd_any an O σ ρ H vs ds Φ Q S hv hf q)
  · obtain ⟨v, rfl, im⟩ := im1 hv
    obtain ⟨p, xs, rfl, r, m⟩ := im
    have e := ImA.ints m
    subst e
    exact .inr ⟨p, ns, rfl, r, q _ H _ hf rfl (Keep.refl H) S.inv⟩
end DL

namespace DL
open PySem PySem.Spec PyProof.Rows L2

def CSml (i j : Int) : Prop := i.natAbs < 2 ^ 63 ∨ j.natAbs < 2 ^ 63
theorem bits_small {i : Int} (h : i.natAbs < 2 ^ 63) : Builtin.Int.intBits i ≤ 64 := intBits_le_64 (by omega) (by omega)
theorem CSml.ok {i j : Int} (h : CSml i j) : IntMulOk i j := h.elim (fun q => .of_left (bits_small q)) fun q => .of_right (bits_small q)
def rMulD : R2 := fun x y H Q => (rI CSml fun i j => .int (i * j)) x y H Q ∨ ∃ a j, x = .str a ∧ y = .int j ∧ ((j = 0 ∧ Q (.str Str.empty) H) ∨ (j = 1 ∧ Q (.str a) H))
theorem op_mulD {X : Cx} : OpR X (binaryOp .Mult) rMulD := opR_or (opI fun _ _ _ _ _ _ _ hc q => mul_int q hc.ok) (by
  intro pins s σ H x y v u Q I rx ry h
  obtain ⟨a, j, rfl, rfl, h⟩ := h
  obtain ⟨t, rfl⟩ := rx
  obtain ⟨t', rfl⟩ := ry
  rcases h with ⟨rfl, q⟩ | ⟨rfl, q⟩
  · exact SB.mul ⟨by decide, fun h1 => absurd (by decide) h1, fun h1 => absurd (by decide) h1⟩ fun t2 tk => ⟨.str Str.empty, H, I.tok _, ⟨_, rfl⟩, q⟩
  · exact SB.mul ⟨by decide, fun _ h2 => Bool.noConfusion (show true = false from h2), fun _ h2 => Bool.noConfusion (show true = false from h2)⟩ fun t2 tk => ⟨.str a, H, I.tok _, ⟨_, rfl⟩, q⟩)
def fMulD : PyData → PyData → (PyData → Prop) → Prop := fun x y Φ => match x, y with
  | .int i, .int j => CSml i j ∧ Φ (.int (i * j))
  | .str a, .int j => (j = 0 ∧ Φ (.str Str.empty)) ∨ (j = 1 ∧ Φ (.str a))
  | _, _ => False
theorem od_mulD {G : Gx} {s s1 s2 : Bool} : OpD G s s1 s2 rMulD fMulD := by
  intro an O σ ρ H x y d e Φ Q S hx hy hf q
  unfold fMulD at hf
  split at hf
  · cases hx
    cases hy
    exact .inl ⟨_, _, rfl, rfl, hf.1, q _ H _ hf.2 rfl (Keep.refl H) S.inv⟩
  · cases hx
    cases hy
    rcases hf with ⟨rfl, hf⟩ | ⟨rfl, hf⟩
    · exact .inr ⟨_, _, rfl, rfl, .inl ⟨rfl, q _ H _ hf rfl (Keep.refl H) S.inv⟩⟩
    · exact .inr ⟨_, _, rfl, rfl, .inr ⟨rfl, q _ H _ hf rfl (Keep.refl H) S.inv⟩⟩
  · exact hf.elim
end DL

namespace DL
open PySem PySem.Spec PyProof.Rows L2
mutual
theorem ord_eq : ∀ x y : PyData, sameD x y = true → x ≠ y → ordD true x y = ordD false x y
  | .int i, .int j, _, hn => by
    have : i ≠ j := fun e => hn (by rw [e])
    simp [ordD]
    omega
  | .tuple xs, .tuple ys, h, hn => ord_eqA xs ys h fun e => hn (by rw [e])
  | .none, _, h, _ | .bool _, _, h, _ | .str _, _, h, _ | .list _, _, h, _ | .dict _, _, h, _ => by simp [sameD] at h
  | .int _, .none, h, _ | .int _, .bool _, h, _ | .int _, .str _, h, _ | .int _, .list _, h, _ | .int _, .tuple _, h, _ | .int _, .dict _, h, _ => by simp [sameD] at h
  | .tuple _, .none, h, _ | .tuple _, .bool _, h, _ | .tuple _, .str _, h, _ | .tuple _, .list _, h, _ | .tuple _, .int _, h, _ | .tuple _, .dict _, h, _ => by simp [sameD] at h
theorem ord_eqA : ∀ xs ys : List PyData, sameA xs ys = true → xs ≠ ys → ordA true xs ys = ordA false xs ys
  | [], [], _, hn => absurd rfl hn
  | [], _ :: _, h, _ => by simp [sameA] at h
  | _ :: _, [], h, _ => by simp [sameA] at h
  | x :: xs, y :: ys, h, hn => by
    have q := sameA_cons h
    by_cases e : x = y
    · rw [(ord_cons true q.1).1 e, (ord_cons false q.1).1 e]
      exact ord_eqA xs ys q.2 fun z => hn (by rw [e, z])
    · rw [(ord_cons true q.1).2 e, (ord_cons false q.1).2 e]
      exact ord_eq x y q.1 e
end
/-- what is above is not at most what is below -/
theorem ord_not {x y : PyData} (h : sameD x y = true) (k : ordD false x y = true) : ordD true y x = false := by
  have ne : x ≠ y := fun e => by
    subst e
    have := ord_refl false x x h
    rw [k] at this
    cases this
  have h2 := same_symm x y h
  rw [ord_eq y x h2 (Ne.symm ne)]
  rcases ord_tri false x y h ne with ⟨_, q⟩ | ⟨q, _⟩
  · exact q
  · rw [k] at q
    cases q
end DL

namespace DL
open PySem PySem.Spec PyProof.Rows L2 RT
theorem src_revL {W : Wd} {ds : List PyData} {xs : List V} {a : Addr} (hl : xs.length = ds.length) : SrcV W (Itv W.K a xs.length) ds.reverse [(.list ds, .ref a)] := fun N H i hp => by
  obtain ⟨p, xs, e1, r, n, m⟩ := hp _ List.mem_cons_self
  cases e1
  rw [hl]
  have l := ImA.length m
  have sq : SqL W.K H a xs := .inl (.inl r)
  rw [List.length_reverse]
  refine ⟨fun hi => ⟨⟨hi, xs, xs[ds.length - 1 - i]'(by omega), sq, List.getElem?_eq_getElem (by omega)⟩, fun x H' y => ?_⟩, fun hi => hi⟩
  obtain ⟨rfl, y⟩ := y
  refine ⟨Keep.refl _, fun d hd => ?_⟩
  rw [List.getElem?_reverse hi] at hd
  obtain ⟨w, hw, iw⟩ := ImA.get m hd
  cases (y xs sq).symm.trans hw
  exact iw
theorem src_revT {W : Wd} {ds : List PyData} {xs : List V} {a : Addr} (hl : xs.length = ds.length) : SrcV W (ItvT W.K a xs.length) ds.reverse [(.tuple ds, .ref a)] := fun N H i hp => by
  obtain ⟨p, xs, e1, r, m⟩ := hp _ List.mem_cons_self
  cases e1
  rw [hl]
  have l := ImA.length m
  rw [List.length_reverse]
  refine ⟨fun hi => ⟨⟨hi, xs, xs[ds.length - 1 - i]'(by omega), r, List.getElem?_eq_getElem (by omega)⟩, fun x H' y => ?_⟩, fun hi => hi⟩
  obtain ⟨rfl, y⟩ := y
  refine ⟨Keep.refl _, fun d hd => ?_⟩
  rw [List.getElem?_reverse hi] at hd
  obtain ⟨w, hw, iw⟩ := ImA.get m hd
  cases (y xs r).symm.trans hw
  exact iw
def wRvI (we : WE) : WI := fun ρ Φ => we ρ fun d => match d with | .list ds => Φ ds.reverse | .tuple ds => Φ ds.reverse | _ => False
section
variable {X : Cx} {G : Gx} {pos p : Pos} {s : Bool} {e tg : Expr} {we : WE}
theorem di_reversed (hK : X.K = G.W.K) (hg : Gl X "reversed") (hm : X.mg "reversed" = none) (he : PE X e (up G s we)) (hs : starEach [e] X.env = (false, eval e X.env) :: starEach [] X.env := by rfl) :
    PI X tg (.Call (.Name "reversed" p) [e] [] pos) (upI G s (wRvI we)) := pi_weak (pi_revA hg hm he hs) fun σ H R ⟨an, O, ρ, Φ, S, hw, q⟩ => by
  refine ⟨an, O, ρ, _, S, hw, fun v H1 d h1 im k1 i1 => ?_⟩
  rw [hK]
  cases d with
  | list ds =>
    obtain ⟨a, xs, rfl, r, n, m⟩ := id im
    refine ⟨a, xs, rfl, .inl ⟨.inl (.inl r), q _ H1 _ _ h1 (src_revL (ImA.length m)) (fun p hp => ?_) k1 i1⟩⟩
    rw [List.mem_singleton.mp hp]
    exact im
  | tuple ds =>
    obtain ⟨a, xs, rfl, r, m⟩ := id im
    refine ⟨a, xs, rfl, .inr ⟨r, q _ H1 _ _ h1 (src_revT (ImA.length m)) (fun p hp => ?_) k1 i1⟩⟩
    rw [List.mem_singleton.mp hp]
    exact im
  | _ => exact h1.elim
def wAug (i : Nat) (f : Int → Int → Int) (we : WE) : WS := fun W ρ => match nth ρ i with
  | .d (.int a) => (we ρ fun y => match y with | .int b => W.nx (put ρ i (.d (.int (f a b)))) | _ => False)
  | _ => False
theorem ds_aug (i : Nat) {x : Str} {pos' : Pos} {op : Operator} {f : Int → Int → Int} (hN : X.N.Nodup) (ho : PIp X op (ipI f)) (he : PE X e (up G true we)) (hi : X.N[i]? = some x := by rfl) (hx : Loc X.env.scope x := by first | exact Or.inl rfl | exact Or.inr rfl)
    (hf : X.fn x = true ∨ X.env.scope.names.lookup x = some .local := by first | exact .inl rfl | exact .inr rfl | assumption) : PS X (.AugAssign (.Name x pos') op e pos) (upS G (wAug i f we)) := ps_weak (ps_aug hN hi hx he ho hf) fun D σ H ⟨an, O, ρ, W, S, h, q1, q2, q3, q4⟩ => by
  unfold wAug at h
  have en := S.en i
  split at h
  · rename_i a hx
    rw [hx] at en
    obtain ⟨v, e1, im⟩ := en
    obtain rfl : v = .int a := im
    refine ⟨_, e1, an, O, ρ, _, S, h, fun y H1 d h1 im1 k1 i1 => ?_⟩
    cases d with
    | int b =>
      obtain rfl : y = .int b := im1
      exact ⟨a, b, rfl, rfl, q1 _ _ _ _ ((S.keep k1 i1).setD i (d := .int (f a b)) rfl) h1⟩
    | _ => exact h1.elim
  · exact h.elim
def wExpr (we : WE) : WS := fun W ρ => we ρ fun _ => W.nx ρ
theorem ds_expr (he : PE X e (up G s we)) (hs : swapsWith e none pos.line X.env = pure false := by rfl) : PS X (.Expr e pos) (upS G (wExpr we)) := ps_weak (ps_expr he hs) fun D σ H ⟨an, O, ρ, W, S, h, q1, q2, q3, q4⟩ =>
  ⟨an, O, ρ, _, S, h, fun v H1 d h1 im k1 i1 => q1 _ _ _ _ (S.keep k1 i1) h1⟩
end
end DL

namespace DL
open PySem PySem.Spec PyProof.Rows L2
abbrev NK := NestedKey
mutual
def numsOnly : NK → Bool
  | .num _ => true
  | .tup ks => numsAll ks
  | _ => false
def numsAll : List NK → Bool
  | [] => true
  | k :: ks => numsOnly k && numsAll ks
end
def nkOk (k : NK) : Bool := decide (k.depth ≤ 8) && numsOnly k
section
variable {P : Program} {w : World} {A : Around} {E : Value → Shared → Prop} {s : Shared}
/-- asked of v, the model's word f ends with b and changes nothing -/
def Says (P : Program) (w : World) (f : Value → Sem Bool) (b : Bool) (s : Shared) (v : Value) : Prop := ∀ (A : Around) (E : Value → Shared → Prop) (Q : Bool → Shared → Prop), Q b s → wpAny (model P w) A (f v) Q E s
theorem says_loop {f : Value → Sem Bool} {g : Value → Option Bool × PUnit → Sem (ForInStep (Option Bool × PUnit))} (items : List Value) (b : Bool)
    (hall : ∀ v ∈ items, Says P w f b s v) (hg : ∀ (v : Value) (r : Option Bool × PUnit) (A : Around) (E : Value → Shared → Prop), Says P w f b s v → r.1 = none → wpAny (model P w) A (g v r) (fun st s' => (∃ r', st = .yield r' ∧ r'.1 = none) ∧ s' = s) E s)
    {Q : Option Bool × PUnit → Shared → Prop} (hQ : ∀ r : Option Bool × PUnit, r.1 = none → Q r s) (r0 : Option Bool × PUnit) (h0 : r0.1 = none) : wpAny (model P w) A (forIn items r0 g) Q E s := by
  refine wpAny_forIn_list _ (fun rest r s' => r.1 = none ∧ s' = s ∧ ∀ v ∈ rest, v ∈ items) _ ?_ ?_ _ _ ⟨h0, rfl, fun v hv => hv⟩
  · rintro v rest r s' ⟨hr, rfl, hm⟩
    refine wpAny_mono (hg v r A E (hall v (hm v List.mem_cons_self)) hr) (fun st s2 hs => ?_) fun _ _ z => z
    obtain ⟨⟨r', rfl, e⟩, rfl⟩ := hs
    exact ⟨e, rfl, fun u hu => hm u (List.mem_cons_of_mem _ hu)⟩
  · rintro r s' ⟨hr, rfl, _⟩
    exact hQ r hr
end
end DL
namespace DL
open PySem PySem.Spec PyProof.Rows L2
section
variable {P : Program} {w : World} {A : Around} {E : Value → Shared → Prop} {s : Shared}
theorem says_of_eq {f : Value → Sem Bool} {b : Bool} {v : Value} (h : f v = pure b) : Says P w f b s v := fun A E Q q => by
  rw [h]
  exact wpAny_pure q
theorem cls_tup {n : Nat} {a : Addr} {o : Obj} {vs : Array Value} {m : Nat} (ho : s.heap.get? a = some o) (hc : o.cls = .type "tuple") (hd : o.data = .seq vs m) (hq : ∀ v ∈ vs.toList, Says P w (ofAClassStatement n) false s v) : Says P w (ofAClassStatement (n + 1)) false s (.ref a) := fun A E Q q => by
  unfold ofAClassStatement
  refine wpAny_bind (wpAny_typeOf ⟨o, ho, hc⟩ ?_)
  dsimp only
  rw [show (("tuple" : String) == "tuple") = true by decide]
  simp only [if_true, Bool.not_true, Bool.false_eq_true, if_false]
  try refine wpAny_bind (wpAny_pure ?_)
  try simp only [Bool.not_true, Bool.false_eq_true, if_false]
  refine wpAny_bind (m := seqItems? (.ref a)) (wpAny_seqItems ho hd ?_)
  dsimp only
  refine wpAny_bind ?_
  show wpAny _ _ (forIn vs _ _) _ _ s
  rw [← Array.forIn_toList]
  refine says_loop (P := P) (w := w) vs.toList false hq (fun v r A E hv hr => ?_) (fun r hr => ?_) _ ?_
  · refine wpAny_bind (hv A E _ ?_)
    simp only [Bool.false_eq_true, if_false]
    exact wpAny_pure ⟨⟨_, rfl, rfl⟩, rfl⟩
  · obtain ⟨r1, r2⟩ := r
    have hr : r1 = none := hr
    subst hr
    exact wpAny_pure q
  · rfl
theorem byV_tup {n : Nat} {a : Addr} {o : Obj} {vs : Array Value} {m : Nat} (ho : s.heap.get? a = some o) (hc : o.cls = .type "tuple") (hd : o.data = .seq vs m) (hq : ∀ v ∈ vs.toList, Says P w (hashByValue n) true s v) : Says P w (hashByValue (n + 1)) true s (.ref a) := fun A E Q q => by
  unfold hashByValue
  refine wpAny_bind (wpAny_specialOf ⟨o, ho, hc⟩ F.slot_tuple_hash.lookup ?_)
  refine wpAny_bind (m := seqItems? (.ref a)) (wpAny_seqItems ho hd ?_)
  refine wpAny_bind ?_
  show wpAny _ _ (forIn vs _ _) _ _ s
  rw [← Array.forIn_toList]
  refine says_loop (P := P) (w := w) vs.toList true hq (fun v r A E hv hr => ?_) (fun r hr => ?_) _ ?_
  · refine wpAny_bind (hv A E _ ?_)
    simp only [Bool.not_true, Bool.false_eq_true, if_false]
    exact wpAny_pure ⟨⟨_, rfl, rfl⟩, rfl⟩
  · obtain ⟨r1, r2⟩ := r
    have hr : r1 = none := hr
    subst hr
    exact wpAny_pure q
  · rfl
mutual
theorem cls_key : ∀ (k : NK) (v : Value) (n : Nat), NestedIs s.heap k v → k.depth ≤ n → numsOnly k = true → Says P w (ofAClassStatement n) false s v
  | .none, _, _, _, _, h => by simp [numsOnly] at h
  | .text _, _, _, _, _, h => by simp [numsOnly] at h
  | .num _, _, n, x, _, _ => by cases x <;> exact says_of_eq (by cases n <;> rfl)
  | .tup ks, _, n, x, hn, h => by
    cases x with
    | tup hg hc hd hk =>
      simp only [NestedKey.depth] at hn
      simp only [numsOnly] at h
      cases n with
      | zero => omega
      | succ n => exact cls_tup hg hc hd (cls_keys ks _ n hk (by omega) h)
theorem cls_keys : ∀ (ks : List NK) (vs : List Value) (n : Nat), NestedAll s.heap ks vs → NestedKey.depthAll ks ≤ n → numsAll ks = true → ∀ v ∈ vs, Says P w (ofAClassStatement n) false s v
  | [], _, n, x, _, _, v, hv => by cases x; cases hv
  | k :: ks, _, n, x, hn, h, v, hv => by
    cases x with
    | cons x1 x2 =>
      simp only [NestedKey.depthAll] at hn
      simp only [numsAll, Bool.and_eq_true] at h
      rcases List.mem_cons.mp hv with e | hv
      · rw [e]; exact cls_key k _ n x1 (by omega) h.1
      · exact cls_keys ks _ n x2 (by omega) h.2 v hv
end
mutual
theorem byV_key : ∀ (k : NK) (v : Value) (n : Nat), NestedIs s.heap k v → k.depth ≤ n → numsOnly k = true → Says P w (hashByValue n) true s v
  | .none, _, _, _, _, h => by simp [numsOnly] at h
  | .text _, _, _, _, _, h => by simp [numsOnly] at h
  | .num _, _, n, x, _, _ => by cases x <;> exact says_of_eq (by cases n <;> rfl)
  | .tup ks, _, n, x, hn, h => by
    cases x with
    | tup hg hc hd hk =>
      simp only [NestedKey.depth] at hn
      simp only [numsOnly] at h
      cases n with
      | zero => omega
      | succ n => exact byV_tup hg hc hd (byV_keys ks _ n hk (by omega) h)
theorem byV_keys : ∀ (ks : List NK) (vs : List Value) (n : Nat), NestedAll s.heap ks vs → NestedKey.depthAll ks ≤ n → numsAll ks = true → ∀ v ∈ vs, Says P w (hashByValue n) true s v
  | [], _, n, x, _, _, v, hv => by cases x; cases hv
  | k :: ks, _, n, x, hn, h, v, hv => by
    cases x with
    | cons x1 x2 =>
      simp only [NestedKey.depthAll] at hn
      simp only [numsAll, Bool.and_eq_true] at h
      rcases List.mem_cons.mp hv with e | hv
      · rw [e]; exact byV_key k _ n x1 (by omega) h.1
      · exact byV_keys ks _ n x2 (by omega) h.2 v hv
end
/-- the tuple at a is the key k, of ints alone -/
def IsN (h : Heap) (k : NK) (a : Addr) : Prop := NestedIs h k (.ref a) ∧ nkOk k = true
theorem IsN.dp {h : Heap} {k : NK} {a : Addr} (x : IsN h k a) : k.depth ≤ 8 := by
  have := x.2
  unfold nkOk at this
  rw [Bool.and_eq_true] at this
  exact of_decide_eq_true this.1
theorem IsN.nums {h : Heap} {k : NK} {a : Addr} (x : IsN h k a) : numsOnly k = true := by
  have := x.2
  unfold nkOk at this
  rw [Bool.and_eq_true] at this
  exact this.2
theorem IsN.at {h h' : Heap} {k : NK} {a : Addr} (x : IsN h k a) (q : ∀ a o vs n, h.get? a = some o → o.data = .seq vs n → h'.get? a = some o) : IsN h' k a := ⟨NestedIs.at q _ _ x.1, x.2⟩
theorem IsN.keep {h h' : Heap} {k : NK} {a : Addr} (x : IsN h k a) (q : ∀ b o, h.get? b = some o → h'.get? b = some o) : IsN h' k a := x.at fun b o _ _ e _ => q b o e
/-- a set is no tuple -/
theorem IsN.same {h h' : Heap} {k : NK} {a b : Addr} {o : Obj} {es : Array (Int × Value)} {ep : Nat} {t : SetTable} (x : IsN h k b) (ho : h.get? a = some o) (hd : o.data = .set es ep t) (hs : Heap.SameBut a h h') : IsN h' k b :=
  x.at fun c oc vs n hc hq => (hs.2 c fun e => by
    subst e
    rw [ho] at hc
    cases hc
    rw [hd] at hq
    exact nomatch hq).trans hc
theorem IsN.inj {h : Heap} {k l : NK} {a : Addr} (x : IsN h k a) (y : IsN h l a) : k = l := NestedIs.inj _ _ _ x.1 y.1
/-- a search among such keys shows nothing -/
theorem seen_keys {k : NK} {b : Addr} {Q : Bool → Shared → Prop} (hk : IsN s.heap k b) {ys : List Value} (hy : ∀ y ∈ ys, ∃ k' c, y = Value.ref c ∧ IsN s.heap k' c) (h : Q false s) : wpAny (model P w) A (searchCouldBeSeen (.ref b) ys) Q E s := by
  unfold searchCouldBeSeen
  refine wpAny_bind (wpAny_forIn_list _ (fun rest r s' => r.1 = none ∧ s' = s ∧ ∀ y ∈ rest, y ∈ ys) _ ?_ ?_ _ _ ⟨rfl, rfl, fun y hy => hy⟩)
  · rintro v rest r s' ⟨hr, rfl, hm⟩
    obtain ⟨k', c, rfl, hc⟩ := hy v (hm v List.mem_cons_self)
    have later : ∀ y ∈ rest, y ∈ ys := fun u hu => hm u (List.mem_cons_of_mem _ hu)
    dsimp only
    by_cases hv : (b == c || (carriedByValue (.ref b) && carriedByValue (.ref c))) = true
    · exact wp_if_pos hv (wpAny_pure ⟨rfl, rfl, later⟩)
    · refine wp_if_neg hv (wpAny_bind (quiet_key k _ 8 s' hk.1 hk.dp A _ _ ?_))
      simp only [Bool.not_true, Bool.false_eq_true, if_false]
      refine wpAny_bind (quiet_key k' _ 8 s' hc.1 hc.dp A _ _ ?_)
      simp only [Bool.not_true, Bool.false_eq_true, if_false]
      refine wpAny_bind (cls_key k _ 8 hk.1 hk.dp hk.nums A _ _ ?_)
      simp only [Bool.false_eq_true, if_false]
      refine wpAny_bind (cls_key k' _ 8 hc.1 hc.dp hc.nums A _ _ ?_)
      simp only [Bool.false_eq_true, if_false]
      exact wpAny_pure ⟨rfl, rfl, later⟩
  · rintro ⟨r1, r2⟩ s' ⟨hr, rfl, _⟩
    have hr : r1 = none := hr
    subst hr
    exact wpAny_pure h
end
end DL

namespace DL
open PySem PySem.Spec PyProof.Rows L2
section
variable {P : Program} {w : World} {A : Around} {E : Value → Shared → Prop} {s : Shared}
abbrev nH (w : World) (k : NK) : Int := NestedKey.hash w k
def entN (w : World) (p : Addr × NK) : Int × Value := (nH w p.2, .ref p.1)
/-- the table at a holds the keys of L -/
structure TabN (w : World) (L : List (Addr × NK)) (es : Array (Int × Value)) (t : SetTable) : Prop where
  rows : es.toList = L.map (entN w)
  tab : TabOk t (L.map fun p => nH w p.2)
  nd : (L.map (·.2)).Nodup
  plain : t.plain = true
  led : w.params.followText "set-order" = true ∨ t.led = true
  room : L.length * 5 < t.mask * 3
structure SetN (w : World) (h : Heap) (a : Addr) (L : List (Addr × NK)) (es : Array (Int × Value)) (ep : Nat) (t : SetTable) : Prop extends TabN w L es t where
  ob : ∃ o, h.get? a = some o ∧ o.ExactSet ∧ o.data = .set es ep t
  is : ∀ p ∈ L, IsN h p.2 p.1
  few : L.length < 64
variable {a : Addr} {L : List (Addr × NK)} {es : Array (Int × Value)} {ep : Nat} {t : SetTable}
theorem TabN.size (R : TabN w L es t) : es.size = L.length := by
  rw [← Array.length_toList, R.rows, List.length_map]
theorem TabN.fits (R : TabN w L es t) : t.fits es.size = true := by
  have h1 := R.tab.sz
  have h2 := R.size
  have h3 := R.room
  rw [List.length_map] at h1
  unfold SetTable.fits SetTable.fill
  rw [R.tab.dm, Bool.and_eq_true]
  refine ⟨beq_iff_eq.mpr (h1.trans h2.symm), decide_eq_true ?_⟩
  show t.place.size + 0 ≤ t.mask
  omega
theorem TabN.ent (R : TabN w L es t) {i : Nat} {p : Addr × NK} (h : L[i]? = some p) : es[i]? = some (nH w p.2, Value.ref p.1) := by
  rw [← Array.getElem?_toList, R.rows, List.getElem?_map, h]
  rfl
theorem TabN.whole (R : TabN w L es t) : ¬ t.gaveWay = true := by
  unfold SetTable.gaveWay
  rw [mask_odd R.tab.mok]
  decide
/-- the c-th step of the way of the hash H in t -/
abbrev stp (t : SetTable) (H : Int) (c : Nat) : SetTable.Probe := L2.nth t.mask (runAt t.mask (SetTable.bits H % (t.mask + 1)) (SetTable.bits H)) c
theorem stp_dummy (m : Nat) : ∀ (n : Nat) (p : SetTable.Probe), p.dummy = none → (L2.nth m p n).dummy = none
  | 0, _, h => h
  | n + 1, p, h => stp_dummy m n (adv m p) (by unfold adv; split <;> exact h)
theorem find_from (R : SetN w s.heap a L es ep t) {x : Addr} {k : NK} (hx : IsN s.heap k x) (hu : A.units + 8 < cLine) {K : Nat} (hf : K < 10 * SetTable.turns t.mask) (hK : (stp t (nH w k) K).j ∉ t.place.toList) (hb : ∀ c, c < K → (stp t (nH w k) c).j ∈ t.place.toList)
    {Q : SetFound → Shared → Prop} (qi : k ∈ L.map (·.2) → Q (.there none) s) (qo : k ∉ L.map (·.2) → Q (.free (stp t (nH w k) K).j false) s) :
    ∀ (f c : Nat) (st : Option SetTable.Probe), st.getD (t.probeStart (nH w k)) = stp t (nH w k) c → c ≤ K → K - c < f →
      (∀ (i : Nat) p, L[i]? = some p → p.2 = k → ∃ c', c ≤ c' ∧ c' < K ∧ t.place.toList[i]? = some (stp t (nH w k) c').j) → wpAny (model P w) A (setSearchFrom a (.ref x) (nH w k) true f st) Q E s := by
  obtain ⟨o, ho, hex, hd⟩ := R.ob
  intro f
  induction f with
  | zero => intro c st _ _ z; exact absurd z (Nat.not_lt_zero _)
  | succ f ih =>
    intro c st e hc hl hre
    rw [setSearchFrom_succ]
    refine wpAny_bind (wpAny_setState_of ho hd R.fits ?_)
    dsimp only
    refine wp_if_neg R.whole ?_
    try refine wpAny_bind (wpAny_pure ?_)
    have sh : ∀ q, L2.nth t.mask (stp t (nH w k) c) q = stp t (nH w k) (c + q) := fun q => (nth_add t.mask c _ q).symm
    have back : c + (K - c) = K := by omega
    have look := go_spec t R.tab.ris R.tab.dm (fun i => (es[i]?.map (·.1)).getD 0) (nH w k) (10 * SetTable.turns t.mask) (K - c) (stp t (nH w k) c) (stp_dummy _ c _ rfl) (by omega)
      (fun q hq => by rw [sh]; exact hb _ (by omega)) (by rw [sh, back]; exact hK)
    have hashes : ∀ (i : Nat) p, L[i]? = some p → (es[i]?.map (·.1)).getD 0 = nH w p.2 := fun i p hp => by
      rw [R.ent hp]
      rfl
    rcases look with ⟨q, i, hq, hi, hh, hno, hp⟩ | ⟨hno, hp⟩
    · rw [show t.probe (fun i => (es[i]?.map (·.1)).getD 0) (nH w k) (st.getD (t.probeStart (nH w k))) = some (.candidate (stp t (nH w k) (c + q)).j i (stp t (nH w k) (c + (q + 1)))) by rw [e, ← sh, ← sh]; exact hp]
      dsimp only
      rw [sh] at hi
      have il : i < L.length := by
        have h1 := (List.getElem?_eq_some_iff.mp hi).1
        have h2 := R.tab.sz
        rw [List.length_map] at h2
        rw [Array.length_toList] at h1
        omega
      obtain ⟨p, hp⟩ : ∃ p, L[i]? = some p := ⟨_, List.getElem?_eq_getElem il⟩
      have pm := List.mem_of_getElem? hp
      have px := R.is p pm
      have slot : t.slot (stp t (nH w k) (c + q)).j = .live i := slot_live R.tab.ris hi
      have onward : wpAny (model P w) A (searchRest a (.ref x) (nH w k) true f es t (stp t (nH w k) (c + q)).j i (stp t (nH w k) (c + (q + 1)))) Q E s := by
        unfold searchRest
        rw [R.ent hp]
        dsimp only
        refine wpAny_bind (wpAny_holding (eqAt_key p.2 k A s _ _ px.1 hx.1 (by have := hx.dp; omega) _ _ _ _ ?_))
        rw [← NestedKey.decide_eq]
        refine wpAny_bind (wpAny_setState_of ho hd R.fits ?_)
        dsimp only
        by_cases hk : p.2 = k
        · exact wp_if_pos (by simp [hk]) (wpAny_pure (qi (List.mem_map.mpr ⟨p, pm, hk⟩)))
        · refine wp_if_neg (by simp [hk]) ?_
          try refine wpAny_bind (wpAny_pure ?_)
          rw [sameMem]
          dsimp only
          simp only [if_true, slot, R.ent hp]
          refine wpAny_bind (wpAny_isSame_ref_self (wpAny_bind (wpAny_pure ?_)))
          simp only [if_true]
          refine wp_if_neg (by simp [hk]) (ih _ _ rfl (by omega) (by omega) fun i0 p0 h0 k0 => ?_)
          obtain ⟨c', a1, a2, a3⟩ := hre i0 p0 h0 k0
          refine ⟨c', ?_, a2, a3⟩
          rcases Nat.lt_trichotomy c' (c + q) with z | z | z
          · refine absurd ((hashes i0 p0 h0).trans (congrArg (nH w) k0)) (hno (c' - c) i0 (by omega) ?_)
            rw [sh, show c + (c' - c) = c' by omega]
            exact a3
          · rw [z] at a3
            have s0 := slot_live R.tab.ris a3
            rw [slot] at s0
            injection s0 with s0
            rw [← s0, hp] at h0
            exact absurd ((congrArg Prod.snd (Option.some.inj h0)).trans k0) hk
          · omega
      by_cases hl : t.led = true
      · refine wp_if_neg (by simp [hl]) ?_
        try refine wpAny_bind (wpAny_pure ?_)
        exact onward
      · refine wp_if_pos (by simp [hl]) (wpAny_bind (seen_keys hx (fun y hy => ?_) ?_))
        · obtain ⟨e1, he, rfl⟩ := List.mem_map.mp hy
          have m1 : e1 ∈ es.toList := by
            have : e1 ∈ es ∧ e1.1 = nH w k := by simpa using he
            simpa using this.1
          rw [R.rows] at m1
          obtain ⟨p2, hp2, rfl⟩ := List.mem_map.mp m1
          exact ⟨p2.2, p2.1, rfl, R.is p2 hp2⟩
        · refine wp_if_neg (by decide) ?_
          try refine wpAny_bind (wpAny_pure ?_)
          exact onward
    · rw [show t.probe (fun i => (es[i]?.map (·.1)).getD 0) (nH w k) (st.getD (t.probeStart (nH w k))) = some (.empty (stp t (nH w k) K).j none) by
        rw [e, show (stp t (nH w k) K).j = (L2.nth t.mask (stp t (nH w k) c) (K - c)).j by rw [sh, back]]
        exact hp]
      dsimp only
      refine wpAny_pure (qo fun hm => ?_)
      obtain ⟨p0, h0, k0⟩ := List.mem_map.mp hm
      obtain ⟨i0, hi0⟩ := List.mem_iff_getElem?.mp h0
      obtain ⟨c', a1, a2, a3⟩ := hre i0 p0 hi0 k0
      refine absurd ((hashes i0 p0 hi0).trans (congrArg (nH w) k0)) (hno (c' - c) i0 (by omega) ?_)
      rw [sh, show c + (c' - c) = c' by omega]
      exact a3
theorem find_key (R : SetN w s.heap a L es ep t) {x : Addr} {k : NK} (hx : IsN s.heap k x) (hu : A.units + 8 < cLine) {Q : SetFound → Shared → Prop} (qi : k ∈ L.map (·.2) → Q (.there none) s)
    (qo : ∀ K, k ∉ L.map (·.2) → (stp t (nH w k) K).j ∉ t.place.toList → (∀ c, c < K → (stp t (nH w k) c).j ∈ t.place.toList) → Q (.free (stp t (nH w k) K).j false) s) : wpAny (model P w) A (setSearch a (.ref x) (nH w k) true) Q E s := by
  have room := R.room
  obtain ⟨K, hf, hK, hb⟩ := R.tab.first (by rw [List.length_map]; omega) (nH w k)
  have big : 10 * SetTable.turns t.mask ≤ 1420 := by
    unfold SetTable.turns
    rcases R.tab.mok with e | e | e <;> omega
  unfold setSearch
  refine find_from R hx hu hf hK hb qi (fun hn => qo K hn hK hb) 100000 0 none rfl (Nat.zero_le _) (by omega) fun i p hp hk => ?_
  have hi : (L.map fun p => nH w p.2)[i]? = some (nH w k) := by
    rw [List.getElem?_map, hp, ← hk]
    rfl
  obtain ⟨j, hj⟩ : ∃ j, t.place.toList[i]? = some j := ⟨_, List.getElem?_eq_getElem (by
    have h1 := (List.getElem?_eq_some_iff.mp hp).1
    have h2 := R.tab.sz
    rw [List.length_map] at h2
    rw [Array.length_toList]
    omega)⟩
  obtain ⟨c, hc, e⟩ := R.tab.before hK hi hj
  exact ⟨c, Nat.zero_le _, hc, by rw [hj]; exact congrArg some e.symm⟩
end
end DL

namespace DL
open PySem PySem.Spec PyProof.Rows L2
theorem all_of {α : Type} : ∀ L : List α, (List.range L.length).filterMap (fun i => L[i]?) = L
  | [] => rfl
  | x :: L => by
    rw [List.length_cons, List.range_succ_eq_map, List.filterMap_cons_some (by rfl), List.filterMap_map]
    exact congrArg (x :: ·) (all_of L)
section
variable {P : Program} {w : World} {A : Around} {E : Value → Shared → Prop} {s : Shared}
variable {a : Addr} {L : List (Addr × NK)} {es : Array (Int × Value)} {ep : Nat} {t : SetTable}
theorem ordered (rows : es.toList = L.map (entN w)) (order : Array Nat) (hp : order.toList.Perm (List.range L.length)) :
    ∃ L2 : List (Addr × NK), (order.filterMap (es[·]?)).toList = L2.map (entN w) ∧ L2.Perm L ∧ (L2.map fun p => nH w p.2) = order.toList.map fun i => (es.map (·.1)).getD i 0 := by
  have get : ∀ i : Nat, es[i]? = (L[i]?).map (entN w) := fun i => by rw [← Array.getElem?_toList, rows, List.getElem?_map]
  refine ⟨order.toList.filterMap fun i => L[i]?, ?_, ?_, ?_⟩
  · rw [Array.toList_filterMap, List.map_filterMap]
    congr 1
    exact funext get
  · have := hp.filterMap fun i => L[i]?
    rwa [all_of] at this
  · have key : ∀ l : List Nat, (∀ i ∈ l, i < L.length) → ((l.filterMap fun i => L[i]?).map fun p => nH w p.2) = l.map fun i => (es.map (·.1)).getD i 0 := by
      intro l
      induction l with
      | nil => intro _; rfl
      | cons i l ih =>
        intro hl
        have hi := hl i List.mem_cons_self
        rw [List.filterMap_cons_some (List.getElem?_eq_getElem hi), List.map_cons, List.map_cons, ih fun j hj => hl j (List.mem_cons_of_mem _ hj)]
        congr 1
        have e5 : (es.map (·.1))[i]? = some (nH w (L[i]).2) := by
          rw [Array.getElem?_map, get, List.getElem?_eq_getElem hi]
          rfl
        simp [Array.getD_eq_getD_getElem?, e5]
    exact key _ fun i hi => List.mem_range.mp (hp.mem_iff.mp hi)
/-- laid anew, in a larger table -/
theorem relay_keys {o : Obj} (ho : s.heap.get? a = some o) (hex : o.ExactSet) (hd : o.data = .set es ep t) (rows : es.toList = L.map (entN w)) (tab : TabOk t (L.map fun p => nH w p.2)) (hfl : L.length ≤ t.mask) (nd : (L.map (·.2)).Nodup) (is : ∀ p ∈ L, IsN s.heap p.2 p.1)
    (pl : t.plain = true) (ld : w.params.followText "set-order" = true ∨ t.led = true) (few : L.length < 64) {wanted M : Nat} (hw : SetTable.sizeAbove wanted - 1 = M) (hM : MaskOk M) (hw2 : SetTable.sizeAbove wanted ≤ 128) (hn : L.length * 5 < M * 3) {Q : Unit → Shared → Prop}
    (hQ : ∀ h' L' es' ep' t', Heap.SameBut a s.heap h' → SetN w h' a L' es' ep' t' → L'.Perm L → Q () { s with heap := h' }) : wpAny (model P w) A (setRelay a wanted) Q E s := by
  have hsl : es.size = L.length := by rw [← Array.length_toList, rows, List.length_map]
  have hfits : t.fits es.size = true := by
    have h1 := tab.sz
    rw [List.length_map] at h1
    unfold SetTable.fits SetTable.fill
    rw [tab.dm, Bool.and_eq_true]
    refine ⟨beq_iff_eq.mpr (h1.trans hsl.symm), decide_eq_true ?_⟩
    show t.place.size + 0 ≤ t.mask
    omega
  obtain ⟨t', order, e, hp, T, em, el, epl, ed⟩ := relaid_ok t (hs := es.map (·.1)) hw hM (by rw [Array.size_map, hsl]; omega)
  rw [Array.size_map, hsl] at hp
  obtain ⟨L2, r1, r2, r3⟩ := ordered rows order hp
  rw [← r3] at T
  have hs2 : (order.filterMap (es[·]?)).size = es.size := by rw [← Array.length_toList, r1, List.length_map, r2.length_eq, hsl]
  rw [setRelay_eq]
  refine wpAny_bind (wpAny_setState_of ho hd hfits ?_)
  dsimp only
  refine wp_if_neg (by rw [sizeLine_eq]; omega) ?_
  try refine wpAny_bind (wpAny_pure ?_)
  rw [e]
  dsimp only
  refine wpAny_bind (wp_if_neg (by rw [hs2]; simp) ?_)
  try refine wpAny_bind (wpAny_pure ?_)
  refine wpAny_pure ?_
  dsimp only
  have n2 := r2.length_eq
  refine wpAny_storeSet_of ho hd (hQ _ L2 _ (ep + 1) t' (Heap.SameBut.update ..) ⟨⟨r1, T, (r2.map (·.2)).nodup_iff.mpr nd, epl.trans pl, ?_, ?_⟩, ⟨_, store_at ho hd, ⟨hex.1, hex.2.1, hex.2.2⟩, rfl⟩, fun p hpm => (is p (r2.mem_iff.mp hpm)).same ho hd (Heap.SameBut.update ..), ?_⟩ r2) (by rw [hs2, hsl, sizeLine_eq]; omega)
  · rw [el]; exact ld
  · rw [n2, em]; exact hn
  · rw [n2]; exact few
theorem add_key (R : SetN w s.heap a L es ep t) {x : Addr} {k : NK} (hx : IsN s.heap k x) (hu : A.units + 8 < cLine) (few : L.length + 1 < 64) {Q : Bool → Shared → Prop}
    (hQ : ∀ b h' L' es' ep' t', Heap.SameBut a s.heap h' → SetN w h' a L' es' ep' t' → ((k ∈ L.map (·.2) ∧ L' = L) ∨ (k ∉ L.map (·.2) ∧ L'.Perm ((x, k) :: L))) → Q b { s with heap := h' }) :
    wpAny (model P w) A (setAddHashed a (.ref x) (nH w k)) Q E s := by
  obtain ⟨o, ho, hex, hd⟩ := R.ob
  have hsl := R.size
  have room := R.room
  unfold setAddHashed
  refine wpAny_holding ?_
  rw [show (100000 : Nat) = 99999 + 1 from rfl, setAddHashedIn_succ]
  refine wpAny_bind (wpAny_setState_of ho hd R.fits ?_)
  dsimp only
  refine wp_if_neg (by simp [byScan, Value.scannable]) ?_
  try refine wpAny_bind (wpAny_pure ?_)
  refine wpAny_bind (find_key R hx hu (fun hm => ?_) fun K hm hK hb => ?_)
  · exact wpAny_pure (hQ false s.heap L es ep t (Heap.SameBut.refl a s.heap) R (.inl ⟨hm, rfl⟩))
  · dsimp only
    refine wpAny_bind (wpAny_setState_of ho hd R.fits ?_)
    dsimp only
    obtain ⟨q1, q2, q3, q4, q5, q6, q7, q8, q9⟩ := R.tab.put hK hb
    have pl : (t.put (stp t (nH w k) K).j).1.plain = true := q6.trans R.plain
    have row2 : (SetTable.insertAt es (SetTable.below t.place (stp t (nH w k) K).j) (nH w k, Value.ref x)).toList = (L.take (SetTable.below t.place (stp t (nH w k) K).j) ++ (x, k) :: L.drop (SetTable.below t.place (stp t (nH w k) K).j)).map (entN w) := by
      rw [SetTable.toList_insertAt, R.rows, List.map_append, List.map_cons, List.map_take, List.map_drop]
      rfl
    generalize SetTable.below t.place (stp t (nH w k) K).j = p at q1 q2 q3 row2
    generalize t.put (stp t (nH w k) K).j = pt at q1 q3 q4 q5 q6 q7 q8 q9 pl ⊢
    obtain ⟨t1, p1⟩ := pt
    dsimp only at q1 q3 q4 q5 q6 q7 q8 q9 pl ⊢
    subst q1
    first
      | (refine wpAny_bind (wp_if_pos pl ?_); refine byV_key k _ 8 hx.1 hx.dp hx.nums A _ _ ?_)
      | refine wp_if_pos pl (wpAny_bind (byV_key k _ 8 hx.1 hx.dp hx.nums A _ _ ?_))
    simp only [if_true]
    have pm := put_perm L p1 (x, k)
    have len := pm.length_eq
    rw [List.length_cons] at len
    rw [show (L.map fun p => nH w p.2).take p1 ++ nH w k :: (L.map fun p => nH w p.2).drop p1 = (L.take p1 ++ (x, k) :: L.drop p1).map (fun p => nH w p.2) by rw [List.map_append, List.map_cons, List.map_take, List.map_drop]] at q3
    have nd1 : ((L.take p1 ++ (x, k) :: L.drop p1).map (·.2)).Nodup := by
      refine (pm.map (·.2)).nodup_iff.mpr ?_
      rw [List.map_cons]
      exact List.nodup_cons.mpr ⟨hm, R.nd⟩
    generalize SetTable.insertAt es p1 (nH w k, Value.ref x) = es1 at row2 ⊢
    generalize L.take p1 ++ (x, k) :: L.drop p1 = L1 at pm len q3 nd1 row2
    have hes : es1.size = L.length + 1 := by rw [← Array.length_toList, row2, List.length_map, len]
    refine wpAny_bind (wpAny_storeSet_of ho hd ?_ (by rw [hes, sizeLine_eq]; omega))
    have sb : Heap.SameBut a s.heap (s.heap.update a (Obj.putSet es1 t1)) := Heap.SameBut.update ..
    have ho1 := store_at (es' := es1) (t' := t1) ho hd
    generalize s.heap.update a (Obj.putSet es1 t1) = h1 at sb ho1 ⊢
    have is1 : ∀ p ∈ L1, IsN h1 p.2 p.1 := fun p hp => by
      rcases List.mem_cons.mp (pm.mem_iff.mp hp) with e | hp
      · rw [e]; exact hx.same ho hd sb
      · exact (R.is p hp).same ho hd sb
    have ld : w.params.followText "set-order" = true ∨ t1.led = true := by rw [q5]; exact R.led
    rw [List.length_map] at q9
    by_cases full : t1.tooFull = true
    · have hfull : t1.mask * 3 ≤ (L.length + 1) * 5 := by
        have h := full
        unfold SetTable.tooFull at h
        rw [decide_eq_true_eq, q9] at h
        exact h
      rw [q4] at hfull
      have go : ∀ M, SetTable.sizeAbove (SetTable.grown (L.length + 1)) - 1 = M → MaskOk M → SetTable.sizeAbove (SetTable.grown (L.length + 1)) ≤ 128 → (L.length + 1) * 5 < M * 3 → L.length + 1 ≤ t.mask →
          wpAny (model P w) A (setRelay a (SetTable.grown (L.length + 1))) (fun _ s' => wpAny (model P w) A (pure true) Q E s') E { s with heap := h1 } := fun M a1 a2 a3 a4 a5 => by
        refine relay_keys (s := { s with heap := h1 }) (L := L1) ho1 ⟨hex.1, hex.2.1, hex.2.2⟩ rfl row2 q3 (by rw [len, q4]; exact a5) nd1 is1 pl ld (by rw [len]; exact few) a1 a2 a3 (by rw [len]; exact a4) fun h2 L2 es2 ep2 t2 sb2 R2 pm2 => ?_
        exact wpAny_pure (hQ true h2 L2 es2 ep2 t2 (sb.trans sb2) R2 (.inr ⟨hm, pm2.trans pm⟩))
      first
        | (refine wpAny_bind ?_; refine wp_if_pos (by simp [full]) ?_)
        | (refine wp_if_pos (by simp [full]) ?_; refine wpAny_bind ?_)
      rw [hsl]
      rcases R.tab.mok with e | e | e
      · rw [e] at hfull room
        have e2 : L.length + 1 = 5 := by omega
        exact go 31 (by rw [e2, size_20]) (.inr (.inl rfl)) (by rw [e2, size_20]; decide) (by omega) (by omega)
      · rw [e] at hfull room
        have e2 : L.length + 1 = 19 := by omega
        exact go 127 (by rw [e2, size_76]) (.inr (.inr rfl)) (by rw [e2, size_76]; decide) (by omega) (by omega)
      · rw [e] at hfull
        omega
    · have h := full
      unfold SetTable.tooFull at h
      rw [decide_eq_true_eq, q9] at h
      first
        | refine wp_if_neg (by simp [full]) ?_
        | (refine wpAny_bind ?_; refine wp_if_neg (by simp [full]) ?_; refine wpAny_pure ?_)
      exact wpAny_pure (hQ true h1 L1 es1 (ep + 1) t1 sb ⟨⟨row2, q3, nd1, pl, ld, by rw [len]; omega⟩, ⟨_, ho1, ⟨hex.1, hex.2.1, hex.2.2⟩, rfl⟩, is1, by rw [len]; exact few⟩ (.inr ⟨hm, pm⟩))
end
end DL

namespace DL
open PySem PySem.Spec PyProof.Rows L2
mutual
def keyD : PyData → NK
  | .int i => .num i
  | .tuple xs => .tup (keyA xs)
  | _ => .none
def keyA : List PyData → List NK
  | [] => []
  | x :: xs => keyD x :: keyA xs
end
mutual
theorem nested_of {h : Heap} : ∀ (d e : PyData) (v : Value) (as : List Addr), sameD d e = true → Reads h v d as → NestedIs h (keyD d) v
  | .int _, .int _, _, _, _, r => by cases r; exact .int _ _
  | .tuple xs, .tuple ys, _, _, s, r => by
    cases r with
    | tuple h1 h2 h3 h4 => exact .tup h1 h2 h3 (nestedA_of xs ys _ _ s h4)
  | .none, _, _, _, h, _ | .bool _, _, _, _, h, _ | .str _, _, _, _, h, _ | .list _, _, _, _, h, _ | .dict _, _, _, _, h, _ => by simp [sameD] at h
  | .int _, .none, _, _, h, _ | .int _, .bool _, _, _, h, _ | .int _, .str _, _, _, h, _ | .int _, .list _, _, _, h, _ | .int _, .tuple _, _, _, h, _ | .int _, .dict _, _, _, h, _ => by simp [sameD] at h
  | .tuple _, .none, _, _, h, _ | .tuple _, .bool _, _, _, h, _ | .tuple _, .str _, _, _, h, _ | .tuple _, .list _, _, _, h, _ | .tuple _, .int _, _, _, h, _ | .tuple _, .dict _, _, _, h, _ => by simp [sameD] at h
theorem nestedA_of {h : Heap} : ∀ (xs ys : List PyData) (vs : List Value) (as : List Addr), sameA xs ys = true → ReadsAll h vs xs as → NestedAll h (keyA xs) vs
  | [], _, _, _, _, r => by cases r; exact .nil
  | _ :: _, [], _, _, s, _ => by simp [sameA] at s
  | x :: xs, y :: ys, _, _, s, r => by
    have q := sameA_cons s
    cases r with
    | cons r1 r2 => exact .cons (nested_of x y _ _ q.1 r1) (nestedA_of xs ys _ _ q.2 r2)
end
mutual
theorem keyD_inj : ∀ (d e f g : PyData), sameD d f = true → sameD e g = true → keyD d = keyD e → d = e
  | .int _, .int _, _, _, _, _, h => by simp only [keyD, NestedKey.num.injEq] at h; rw [h]
  | .tuple xs, .tuple ys, .tuple us, .tuple vs, h1, h2, h => by
    simp only [keyD, NestedKey.tup.injEq] at h
    simp only [sameD] at h1 h2
    rw [keyA_inj xs ys us vs h1 h2 h]
  | .int _, .tuple _, _, _, _, _, h => by simp [keyD] at h
  | .tuple _, .int _, _, _, _, _, h => by simp [keyD] at h
  | .none, _, _, _, h, _, _ | .bool _, _, _, _, h, _, _ | .str _, _, _, _, h, _, _ | .list _, _, _, _, h, _, _ | .dict _, _, _, _, h, _, _ => by simp [sameD] at h
  | .int _, .none, _, _, _, h, _ | .int _, .bool _, _, _, _, h, _ | .int _, .str _, _, _, _, h, _ | .int _, .list _, _, _, _, h, _ | .int _, .dict _, _, _, _, h, _ => by simp [sameD] at h
  | .tuple _, .none, _, _, _, h, _ | .tuple _, .bool _, _, _, _, h, _ | .tuple _, .str _, _, _, _, h, _ | .tuple _, .list _, _, _, _, h, _ | .tuple _, .dict _, _, _, _, h, _ => by simp [sameD] at h
  | .tuple _, .tuple _, .none, _, h, _, _ | .tuple _, .tuple _, .bool _, _, h, _, _ | .tuple _, .tuple _, .str _, _, h, _, _ | .tuple _, .tuple _, .list _, _, h, _, _ | .tuple _, .tuple _, .int _, _, h, _, _ | .tuple _, .tuple _, .dict _, _, h, _, _ => by simp [sameD] at h
  | .tuple _, .tuple _, .tuple _, .none, _, h, _ | .tuple _, .tuple _, .tuple _, .bool _, _, h, _ | .tuple _, .tuple _, .tuple _, .str _, _, h, _ | .tuple _, .tuple _, .tuple _, .list _, _, h, _ | .tuple _, .tuple _, .tuple _, .int _, _, h, _ | .tuple _, .tuple _, .tuple _, .dict _, _, h, _ => by simp [sameD] at h
theorem keyA_inj : ∀ (xs ys us vs : List PyData), sameA xs us = true → sameA ys vs = true → keyA xs = keyA ys → xs = ys
  | [], [], _, _, _, _, _ => rfl
  | [], _ :: _, _, _, _, _, h => by simp [keyA] at h
  | _ :: _, [], _, _, _, _, h => by simp [keyA] at h
  | _ :: _, _ :: _, [], _, h, _, _ => by simp [sameA] at h
  | _ :: _, _ :: _, _ :: _, [], _, h, _ => by simp [sameA] at h
  | x :: xs, y :: ys, u :: us, v :: vs, h1, h2, h => by
    have q1 := sameA_cons h1
    have q2 := sameA_cons h2
    simp only [keyA, List.cons.injEq] at h
    rw [keyD_inj x y u v q1.1 q2.1 h.1, keyA_inj xs ys us vs q1.2 q2.2 h.2]
end
section
variable {P : Program} {w : World} {A : Around} {E : Value → Shared → Prop} {R : Result → Shared → Prop} {I : Addr} {fp wr : List Addr} {Ge : Array GenState → Array GenState → Prop} {Pv : Nat → Value → Prop} {St : Nat → Shared → Prop}
/-- the first i of ks lie in the set at a -/
def LaidN (w : World) (h : Heap) (a : Addr) (ks : List (Addr × NK)) (i : Nat) : Prop := ∃ L es ep t, SetN w h a L es ep t ∧ (∀ p ∈ L, p ∈ ks) ∧ (∀ p ∈ ks.take i, p.2 ∈ L.map (·.2)) ∧ L.length ≤ i
theorem LaidN.move {h h' : Heap} {a : Addr} {ks : List (Addr × NK)} {i : Nat} (l : LaidN w h a ks i) (k : ∀ o, h.get? a = some o → h'.get? a = some o) (is : ∀ p ∈ ks, IsN h' p.2 p.1) : LaidN w h' a ks i := by
  obtain ⟨L, es, ep, t, R, sub, all, len⟩ := l
  obtain ⟨o, ho, r⟩ := R.ob
  exact ⟨L, es, ep, t, ⟨R.toTabN, ⟨o, k o ho, r⟩, fun p hp => is p (sub p hp), R.few⟩, sub, all, len⟩
theorem keys_fill (ks : List (Addr × NK)) (W : WalksS P w A.in1 I fp wr Ge ks.length Pv St) (a : Addr) (away : a ∉ fp) (val : ∀ i v, Pv i v → ∃ p, ks[i]? = some p ∧ v = .ref p.1) (few : ks.length < 64) (h0 : Heap) (is : ∀ p ∈ ks, IsN h0 p.2 p.1) (an : h0.get? a = none)
    (wn : ∀ b ∈ wr, h0.get? b = none) (hu : A.in1.units + 8 < cLine) :
    ∀ (left i : Nat) (s : Shared), ks.length - i = left → i ≤ ks.length → St i s → (∀ b o, h0.get? b = some o → s.heap.get? b = some o) → LaidN w s.heap a ks i →
      (∀ s', Moved (a :: wr) Ge s s' → (∀ b o, h0.get? b = some o → s'.heap.get? b = some o) → LaidN w s'.heap a ks ks.length → R (.ok (.ret .none)) s') → codeAny (model P w) A (.builtin "set.update.loop" ⟨[.ref a, .ref I], []⟩) R s := by
  have awr : a ∉ wr := fun z => away (W.sub _ z)
  have more : ∀ b ∈ wr, b ∈ a :: wr := fun b z => List.mem_cons_of_mem _ z
  have stay : ∀ {s s' : Shared}, Moved wr Ge s s' → (∀ b o, h0.get? b = some o → s.heap.get? b = some o) → ∀ b o, h0.get? b = some o → s'.heap.get? b = some o := fun mv k b o e => mv.heap b o (fun z => by rw [wn b z] at e; cases e) (k b o e)
  intro left
  induction left with
  | zero =>
    intro i s e hi st k0 l fin
    obtain rfl : i = ks.length := by omega
    refine codeAny_builtin F.entry_set_update_loop ?_
    rw [Around.under_plainId F.plain_set_update_loop _]
    refine wpAny_bind (m := pyNext (.ref I)) (W.done s _ _ st fun s2 mv => ?_)
    have k2 := stay mv k0
    exact wpAny_pure (fin s2 (mv.mono more) k2 (l.move (fun o z => mv.heap a _ awr z) fun p hp => (is p hp).keep k2))
  | succ left ih =>
    intro i s e hi st k0 l fin
    have lt : i < ks.length := by omega
    refine codeAny_builtin F.entry_set_update_loop ?_
    rw [Around.under_plainId F.plain_set_update_loop _]
    refine wpAny_bind (m := pyNext (.ref I)) (W.item i s _ _ lt st fun v s2 pv st2 mv => ?_)
    obtain ⟨p, hp, rfl⟩ := val i v pv
    have k2 := stay mv k0
    obtain ⟨L, es, ep, t, R, sub, all, len⟩ := l.move (fun o z => mv.heap a _ awr z) fun p hp => (is p hp).keep k2
    have hx : IsN s2.heap p.2 p.1 := (is p (List.mem_of_getElem? hp)).keep k2
    show wpAny _ A.in1 (holding [Value.ref p.1] (setAdd a (.ref p.1)) >>= _) _ _ s2
    refine wpAny_bind (wpAny_holding ?_)
    unfold setAdd
    refine wpAny_holding (wpAny_bind (pyHash_key p.2 _ A.in1 s2 _ hx.1 (by have := hx.dp; omega) ?_))
    refine add_key (s := { s2 with toks := s2.toks + p.2.draws }) R hx hu (by omega) fun b h2 L2 es2 ep2 t2 sb R2 q => ?_
    have k3 : ∀ b o, h0.get? b = some o → h2.get? b = some o := fun b o z => (sb.2 b fun y => by rw [y, an] at z; cases z).trans (k2 b o z)
    have tk : ks.take (i + 1) = ks.take i ++ [p] := by
      rw [List.take_succ, hp]
      rfl
    have l2 : LaidN w h2 a ks (i + 1) := by
      refine ⟨L2, es2, ep2, t2, R2, fun r hr => ?_, fun r hr => ?_, ?_⟩
      · rcases q with ⟨_, rfl⟩ | ⟨_, pm⟩
        · exact sub r hr
        · rcases List.mem_cons.mp (pm.mem_iff.mp hr) with rfl | z
          · exact List.mem_of_getElem? hp
          · exact sub r z
      · rw [tk] at hr
        rcases q with ⟨m, rfl⟩ | ⟨_, pm⟩
        · rcases List.mem_append.mp hr with z | z
          · exact all r z
          · rw [List.mem_singleton.mp z]; exact m
        · rw [(pm.map (·.2)).mem_iff, List.map_cons]
          rcases List.mem_append.mp hr with z | z
          · exact List.mem_cons_of_mem _ (all r z)
          · rw [List.mem_singleton.mp z]; exact List.mem_cons_self
      · rcases q with ⟨_, rfl⟩ | ⟨_, pm⟩
        · omega
        · have := pm.length_eq
          rw [List.length_cons] at this
          omega
    refine wpAny_pure ⟨plainId_quiet F.plain_set_update_loop _, ih (i + 1) _ (by omega) lt (W.frame _ s2 _ _ st2 (Nat.le_add_right _ _) fun b hb o z => ?_) k3 l2 fun s3 mv2 k4 l3 => ?_⟩
    · rw [sb.2 b fun q => away (q ▸ hb)]; exact z
    · refine fin s3 (Moved.trans W.gtrans ((mv.mono more).then_heap (Nat.le_add_right _ _) fun b o hb z => ?_) mv2) k4 l3
      rw [sb.2 b fun q => hb (by rw [q]; exact List.mem_cons_self)]; exact z
end
section
variable {P : Program} {w : World} {A : Around} {E : Value → Shared → Prop} {s : Shared}
theorem fresh_keys {h : Heap} {a : Addr} {ks : List (Addr × NK)} (ho : h.get? a = some { cls := .type "set", dict := none, data := .set #[] 0 (.fresh 0 0 (!w.params.followText "set-order")) }) : LaidN w h a ks 0 := by
  refine ⟨[], #[], 0, .fresh 0 0 (!w.params.followText "set-order"), ⟨⟨rfl, ⟨List.Pairwise.nil, rfl, rfl, .inl rfl, fun x hx => (by cases hx), fun i h j hi => (by simp at hi)⟩, List.nodup_nil, rfl, ?_, (by decide : 0 * 5 < 7 * 3)⟩, ⟨_, ho, ⟨rfl, rfl, rfl⟩, rfl⟩, fun p hp => (by cases hp), by decide⟩, fun p hp => (by cases hp), fun p hp => (by simp at hp), Nat.le_refl _⟩
  show _ ∨ (!w.params.followText "set-order") = true
  cases w.params.followText "set-order"
  · exact .inr rfl
  · exact .inl rfl
set_option maxHeartbeats 4000000 in
theorem set_of_keys {l : Addr} {items : Array Value} {ks : List (Addr × NK)} {Q : Value → Shared → Prop} (hh : A.handled = none) (hl : s.heap.IsList l items) (hi : items.toList = ks.map fun p => Value.ref p.1) (is : ∀ p ∈ ks, IsN s.heap p.2 p.1) (few : ks.length < 64) (hu : A.units + 11 < cLine)
    (h : ∀ (h2 : Heap) (tk : Nat), LaidN w h2 s.heap.objs.size ks ks.length → (∀ b o, s.heap.get? b = some o → h2.get? b = some o) → Q (.ref s.heap.objs.size) { s with heap := h2, toks := tk }) :
    wpAny (model P w) A (call (.type "set") [.ref l]) Q E s := by
  have len : items.size = ks.length := by rw [← Array.length_toList, hi, List.length_map]
  obtain ⟨c, tl, hmro⟩ := F.called_set.mro
  have hmade := F.called_set.made
  have hsub := F.called_set.sub
  refine wpAny_call (codeAny_of_tree ?_)
  show wpAny _ _ (callAny (.type "set") _) _ _ _
  refine wpAny_pure ⟨Code.quiet_builtin _ (by decide +kernel), codeAny_builtin F.entry_type_call ?_⟩
  rw [Around.under_plain (weight_type_call_type "set" [.ref l] []) rfl]
  have h1 := F.called_set.notType
  have h2 := F.called_set.canCreate
  have hct := F.typeCall_set_1 (.ref l)
  repeat (any_goals (first | assumption | wp_step))
  refine codeAny_mono (set_made (.ref l) (E := E) (Q := fun obj s₁ => obj = .ref s.heap.objs.size ∧ s₁ = { s with heap := s.heap.push { cls := .type "set", dict := none, data := .set #[] 0 (.fresh 0 0 (!w.params.followText "set-order")) } }) ⟨rfl, rfl⟩) fun r s₁ hr => ?_
  rcases r with e | fl
  · exact hr
  cases fl with
  | ret obj =>
    obtain ⟨rfl, rfl⟩ := hr
    have gZ : (s.heap.push { cls := .type "set", dict := none, data := .set #[] 0 (.fresh 0 0 (!w.params.followText "set-order")) }).get? s.heap.objs.size = some { cls := .type "set", dict := none, data := .set #[] 0 (.fresh 0 0 (!w.params.followText "set-order")) } := Heap.get?_push_size _ rfl
    have hT : Shared.TypeIs { s with heap := s.heap.push { cls := .type "set", dict := none, data := .set #[] 0 (.fresh 0 0 (!w.params.followText "set-order")) } } (.ref s.heap.objs.size) "set" := ⟨_, gZ, rfl⟩
    have hli := F.called_set.init.lookup
    have hbi := F.called_set.init.bind (.ref s.heap.objs.size)
    repeat (any_goals (first | assumption | wp_step))
    refine codeAny_mono (codeAny_call_builtin (R := wants (fun r s₂ => r = .none ∧ ∃ h2 tk, s₂ = { s with heap := h2, toks := tk } ∧ LaidN w h2 s.heap.objs.size ks ks.length ∧
        ∀ b o, s.heap.get? b = some o → h2.get? b = some o) E) F.called_set.init.plain F.entry_set_init (check_set_init_1 hT ?_)) fun r₂ s₂ hr₂ => ?_
    · obtain ⟨⟨ocls, odict, odata, oslots⟩, hol, hcl, nl, hdl⟩ := hl
      simp only at hcl hdl
      subst hcl hdl
      have hol2 : (s.heap.push { cls := .type "set", dict := none, data := .set #[] 0 (.fresh 0 0 (!w.params.followText "set-order")) }).get? l = some { cls := .type "list", dict := odict, data := .seq items nl, slots := oslots } := Heap.get?_push_of_some _ hol
      have hsls := F.sub_list_set
      have hslf := F.sub_list_frozenset
      have hne : (Value.type "list" == Value.type "dict") = false := by decide
      have isl : (s.heap.push { cls := .type "set", dict := none, data := .set #[] 0 (.fresh 0 0 (!w.params.followText "set-order")) }).IsList l items := ⟨_, hol2, rfl, nl, rfl⟩
      unfold Builtin.«set.__init__» noKeywords Builtin.Frozenset.updateFrom
      generalize hPI : pyIter = PI
      wp_walk
      subst hPI
      refine wpAny_pyIter_list isl ?_
      refine wpAny_bind (wpAny_runValue ?_)
      have ltl : l < s.heap.objs.size := Heap.lt_size hol
      have zz : (s.heap.push { cls := .type "set", dict := none, data := .set #[] 0 (.fresh 0 0 (!w.params.followText "set-order")) }).objs.size = s.heap.objs.size + 1 := Heap.size_push ..
      have h3 : A.in1.in1.in1.handled = none := by simp [hh]
      have apart : l ≠ (s.heap.push { cls := .type "set", dict := none, data := .set #[] 0 (.fresh 0 0 (!w.params.followText "set-order")) }).objs.size := by rw [zz]; exact Nat.ne_of_lt (Nat.lt_succ_of_lt ltl)
      have away : s.heap.objs.size ∉ [(s.heap.push { cls := .type "set", dict := none, data := .set #[] 0 (.fresh 0 0 (!w.params.followText "set-order")) }).objs.size, l] := by
        rw [zz]
        simp only [List.mem_cons, List.not_mem_nil, or_false, not_or]
        exact ⟨Nat.ne_of_lt (Nat.lt_succ_self _), Nat.ne_of_gt ltl⟩
      have vals : ∀ (i : Nat) (v : Value), items[i]? = some v → ∃ p, ks[i]? = some p ∧ v = .ref p.1 := fun i v hv => by
        rw [← Array.getElem?_toList, hi, List.getElem?_map] at hv
        obtain ⟨p, hp, e⟩ := Option.map_eq_some_iff.mp hv
        exact ⟨p, hp, e.symm⟩
      have none_of : ∀ b, s.heap.objs.size ≤ b → s.heap.get? b = none := fun b hb => by
        cases q : s.heap.get? b with
        | none => rfl
        | some o => exact absurd (Nat.lt_of_lt_of_le (Heap.lt_size q) hb) (Nat.lt_irrefl _)
      have W := (Walks.list (prog := P) (w := w) h3 _ l apart items).toS
      rw [len] at W
      refine keys_fill ks W s.heap.objs.size away vals few s.heap is (none_of _ (Nat.le_refl _)) (fun b hb => none_of b ?wr) (by show A.units + 1 + 1 + 1 + 8 < cLine; omega) (ks.length - 0) 0 _ (by omega) (Nat.zero_le _) ⟨⟨_, Heap.get?_push_size _ rfl, rfl, rfl⟩, isl.push _⟩ (fun b o e => Heap.get?_push_of_some _ (Heap.get?_push_of_some _ e)) ?st ?fin
      case wr =>
        rw [List.mem_singleton.mp hb, zz]
        exact Nat.le_succ _
      case st => exact fresh_keys (Heap.get?_push_of_some _ gZ)
      case fin =>
        intro s3 mv k3 l3
        obtain ⟨h3, g3, d3, t3, o3⟩ := s3
        obtain rfl : g3 = s.gens := mv.gens
        obtain rfl : d3 = s.drawn := mv.drawn
        obtain rfl : o3 = s.os := mv.os
        show wpAny _ _ _ _ _ _
        refine wpAny_pure ?_
        show wpAny _ _ (ret Value.none) _ _ _
        exact wpAny_pure ⟨rfl, h3, t3, rfl, l3, k3⟩
    · rcases r₂ with e | fl₂
      · exact hr₂
      cases fl₂ with
      | ret r =>
        obtain ⟨rfl, h2, tk, rfl, l2, k2⟩ := hr₂
        repeat (any_goals (first | assumption | wp_step))
        exact h _ _ l2 k2
      | _ => exact hr₂.elim
  | _ => exact hr.elim
end
end DL

namespace DL
open PySem PySem.Spec PyProof.Rows L2
section
variable {P : Program} {w : World} {A : Around} {E : Value → Shared → Prop} {s : Shared}
theorem readsA_of {h : Heap} (g : Value → PyData) : ∀ vs : List Value, (∀ v ∈ vs, ∃ bs, Reads h v (g v) bs) → ∃ as, ReadsAll h vs (vs.map g) as
  | [], _ => ⟨[], .nil⟩
  | v :: vs, h1 => by
    obtain ⟨bs, r⟩ := h1 v List.mem_cons_self
    obtain ⟨as, r2⟩ := readsA_of g vs fun u hu => h1 u (List.mem_cons_of_mem _ hu)
    exact ⟨_, .cons r r2⟩
/-- sorted(a set of rows) -/
theorem sorted_keys {a : Addr} {L : List (Addr × NK)} {es : Array (Int × Value)} {ep : Nat} {t : SetTable} {ds : List PyData} {Q : Value → Shared → Prop} (R : SetN w s.heap a L es ep t) (hh : A.handled = none) (ok : RowsOk ds) (rd : ∀ p ∈ L, ∃ d ∈ ds, ∃ bs, keyD d = p.2 ∧ Reads s.heap (.ref p.1) d bs) (hu : A.units + 53 < cLine)
    (hQ : ∀ s2 p (out : Array Value) (c : Nat) (T : List (Addr × PyData)), (∀ b o, s.heap.get? b = some o → s2.heap.get? b = some o) → s2.gens = s.gens → s2.os = s.os → s.heap.objs.size ≤ p → s2.heap.get? p = some (seqObj "list" out c) →
      out.toList = T.map (fun q => Value.ref q.1) → (T.map fun q => (q.1, keyD q.2)).Perm L → (∀ q ∈ T, q.2 ∈ ds ∧ ∃ bs, Reads s.heap (.ref q.1) q.2 bs) → (T.map (·.2)).Pairwise (fun d e => ordD false e d = false) → out.size ≤ sizeLine → Q (.ref p) s2) :
    wpAny (model P w) A (call (.builtin "sorted") [.ref a]) Q E s := by
  obtain ⟨o, ho, hex, hd⟩ := R.ob
  have hsz := R.size
  have few := R.few
  refine Calls.call_function_entry kind_sorted plain_sorted entry_sorted (args_sorted1 _) ?_
  unfold Builtin.«sorted»
  refine wpAny_bind (m := checkCount "sorted" 1 1 _) (wpAny_pure (wpAny_bind ?_))
  refine collect_set (A := A.in1) hh ⟨o, ho, hex.1, hd⟩ R.fits (by unfold scanBound; omega) R.tab.ris R.led fun s1 vs k1 hz g1 o1 pm => ?_
  have pm2 : vs.Perm (L.map fun p => Value.ref p.1) := by
    rw [R.rows, List.map_map] at pm
    exact pm
  have lv : vs.length < 64 := by rw [pm2.length_eq, List.length_map]; exact few
  have lv2 : vs.length ≤ sizeLine := by rw [sizeLine_eq]; omega
  obtain ⟨g, hg⟩ : ∃ g, g = SeqAt.readOf s.heap := ⟨_, rfl⟩
  have gv : ∀ v ∈ vs, ∃ p ∈ L, v = Value.ref p.1 ∧ g v ∈ ds ∧ keyD (g v) = p.2 ∧ ∃ bs, Reads s.heap v (g v) bs := fun v hv => by
    obtain ⟨p, hp, e⟩ := List.mem_map.mp (pm2.mem_iff.mp hv)
    subst e
    obtain ⟨d, hd2, bs, e1, r⟩ := rd p hp
    have : g (.ref p.1) = d := by rw [hg]; exact SeqAt.readOf_eq (ok.lay d hd2) r
    rw [this]
    exact ⟨p, hp, rfl, hd2, e1, bs, r⟩
  have stay : ∀ b o, s.heap.get? b = some o → (s1.heap.push (seqObj "list" vs.toArray 0)).get? b = some o := fun b o e => Heap.get?_push_of_some _ (k1 b o e)
  obtain ⟨as, rdA⟩ := readsA_of (h := s1.heap.push (seqObj "list" vs.toArray 0)) g vs fun v hv => by
    obtain ⟨p, _, _, m, _, bs, r⟩ := gv v hv
    exact ⟨bs, reads_keep (fun b o e _ => stay b o e) _ _ _ _ (ok.same _ m _ m) r⟩
  have mem : ∀ x ∈ vs.map g, x ∈ ds := fun x hx => by
    obtain ⟨v, hv, rfl⟩ := List.mem_map.mp hx
    obtain ⟨_, _, _, m, _⟩ := gv v hv
    exact m
  have ok2 : RowsOk (vs.map g) := ⟨fun x hx y hy => ok.same x (mem x hx) y (mem y hy), fun x hx => ok.row x (mem x hx), fun x hx => ok.lay x (mem x hx), fun x hx => ok.dep x (mem x hx)⟩
  refine wpAny_bind (wpAny_newList ?_ lv2)
  have atL : (s1.heap.push (seqObj "list" vs.toArray 0)).get? s1.heap.objs.size = some (seqObj "list" vs.toArray 0) := Heap.get?_push_size _ rfl
  refine wpAny_bind (wpAny_holding (wpAny_call_entry slot_list_sort ⟨_, atL, rfl⟩ entry_list_sort
    (sort_rows (s := { s1 with heap := s1.heap.push (seqObj "list" vs.toArray 0) }) atL lv rdA ok2 g (fun v hv d hd2 bs r => ?_) (by show A.units + 1 + 1 + 50 < cLine; omega) fun out p1 p2 => ⟨_, rfl, ?_⟩) (args_list_sort _)))
  · obtain ⟨p, _, _, m, _, bs2, r2⟩ := gv v hv
    exact SeqAt.Reads.unique _ _ _ _ _ (ok.lay _ m) (reads_keep (fun b o e _ => stay b o e) _ _ _ _ (ok.same _ m _ m) r2) r
  obtain ⟨c, hc⟩ := sortedHeap_at (vs := vs) (out := out) atL
  let T : List (Addr × PyData) := out.toList.map fun v => (match v with | .ref b => b | _ => 0, g v)
  have om : ∀ v ∈ out.toList, v ∈ vs := fun v hv => p1.mem_iff.mp hv
  have eT : out.toList = T.map fun q => Value.ref q.1 := by
    show _ = (out.toList.map _).map _
    rw [List.map_map]
    refine (List.map_id _).symm.trans (List.map_congr_left fun v hv => ?_)
    obtain ⟨p, _, rfl, _⟩ := gv v (om v hv)
    rfl
  refine wpAny_pure ⟨_, rfl, hQ _ s1.heap.objs.size out c T (fun b u e => ?_) g1 o1 hz hc eT ?_ (fun q hq => ?_) ?_ ?_⟩
  · have lt := Heap.lt_size (k1 b u e)
    show (sortedHeap (s1.heap.push (seqObj "list" vs.toArray 0)) s1.heap.objs.size vs out).get? b = some u
    rw [sortedHeap_old (Nat.ne_of_lt lt) (by rw [size_push']; exact Nat.lt_succ_of_lt lt)]
    exact stay b u e
  · show ((out.toList.map _).map _).Perm L
    rw [List.map_map]
    have e2 : (L.map fun p => Value.ref p.1).map (fun v => (match v with | .ref b => b | _ => 0, keyD (g v))) = L := by
      rw [List.map_map]
      refine (List.map_congr_left fun p hp => ?_).trans (List.map_id _)
      obtain ⟨d, hd2, bs, e1, r⟩ := rd p hp
      have e3 : g (.ref p.1) = d := by rw [hg]; exact SeqAt.readOf_eq (ok.lay d hd2) r
      show (p.1, keyD (g (.ref p.1))) = p
      rw [e3, e1]
    have := (p1.trans pm2).map fun v => (match v with | .ref b => b | _ => 0, keyD (g v))
    rwa [e2] at this
  · obtain ⟨v, hv, rfl⟩ := List.mem_map.mp hq
    obtain ⟨p, _, rfl, m, _, bs, r⟩ := gv v (om v hv)
    exact ⟨m, bs, r⟩
  · show ((out.toList.map _).map _).Pairwise _
    rw [List.map_map, List.pairwise_map]
    refine List.Pairwise.imp_of_mem (fun {u v} hu hv hle => ?_) p2
    show ordD false (g v) (g u) = false
    rw [rank_iff ok2.same (List.mem_map.mpr ⟨v, om v hv, rfl⟩) (List.mem_map.mpr ⟨u, om u hu, rfl⟩)]
    exact decide_eq_false (by omega)
  · have := p1.length_eq
    rw [Array.length_toList] at this
    rw [this]
    exact lv2
end
section
variable {X : Cx} {G : Gx} {s s1 : Bool} {e : Expr} {we : WE} {ta : TE} {p p2 q pos : Pos}
def tSortSetN (K : PySem.W.Frag) (ta : TE) : TE := fun σ H Q => ta σ H fun x H1 => ∃ (l : Addr) (xs : List V) (ds : List PyData), x = V.ref l ∧ SqL K H1 l xs ∧ DpAll K H1 xs ds ∧ xs.length < 64 ∧ RowsOk ds ∧ (∀ d ∈ ds, nkOk (keyD d) = true) ∧
  ∀ (ps : List (V × PyData)) (p : Addr), (∀ t ∈ ps, t ∈ xs.zip ds) → (∀ d ∈ ds, d ∈ ps.map (·.2)) → (ps.map (·.2)).Nodup → (ps.map (·.2)).Pairwise (fun d e => ordD false e d = false) → H1 p = none → Q (.ref p) (upd H1 p (.lst (ps.map (·.1))))
theorem pe_sortSetN (hc : X.calm = true) (hu : X.A.units + 65 < cLine) (hg : Gl X "sorted") (hm : X.mg "sorted" = none) (hg2 : Gl X "set") (hm2 : X.mg "set" = none) (ha : PE X e ta) (na : starEach [e] X.env = (false, eval e X.env) :: starEach [] X.env := by rfl) :
    PE X (.Call (.Name "sorted" p) [.Call (.Name "set" p2) [e] [] q] [] pos) (tSortSetN X.K ta) := ⟨fun pins s σ H Q I h => by
  refine Call_ (ld_blt I hg hm boot_sorted (callWith_builtin1 (args_cons ?_ rfl) rfl rfl))
  refine Call_ (ld_blt I hg2 hm2 boot_set (callWith_type1 (args_cons (thn (ha.run pins s σ H _ I h) fun v s1 ⟨x, H1, I1, r1, q1⟩ => args_nil ?_) na) na rfl))
  obtain ⟨l, xs, ds, rfl, hq, hd, h64, ok, nk, q1⟩ := q1
  cases r1
  obtain ⟨its, rv, pl, hz⟩ := I1.list hq
  obtain ⟨as, rd⟩ := Dp.readsAll I1 ds xs its hd rv
  have l1 : xs.length = its.length := rv.length
  have l2 : its.length = ds.length := SeqAt.ReadsAll.length _ _ _ rd
  -- an item: its address, its value of the layer, its datum
  have items : ∀ (us : List Value) (ys : List V) (fs : List PyData), Vals ys us → (∀ f ∈ fs, rowD f = true) → (∃ bs, ReadsAll s1.heap us fs bs) → ∃ ks : List (Addr × V × PyData), us = ks.map (fun k => Value.ref k.1) ∧ ys.zip fs = ks.map (·.2) ∧ fs = ks.map (·.2.2) ∧ ∀ k ∈ ks, RelV k.2.1 (.ref k.1) ∧ ∃ bs, Reads s1.heap (.ref k.1) k.2.2 bs := by
    intro us
    induction us with
    | nil =>
      intro ys fs v _ ⟨bs, r⟩
      cases v
      cases r
      exact ⟨[], rfl, rfl, rfl, fun k hk => by cases hk⟩
    | cons u us ih =>
      intro ys fs v hr ⟨bs, r⟩
      cases v with
      | cons v1 v2 =>
        cases r with
        | @cons _ _ d ds _ _ r1 r2 =>
          obtain ⟨ks, e1, e2, e3, e4⟩ := ih _ _ v2 (fun f hf => hr f (List.mem_cons_of_mem _ hf)) ⟨_, r2⟩
          obtain ⟨cs, rest, rfl⟩ := rows_row (hr d List.mem_cons_self)
          cases r1 with
          | @tuple a o xs1 n _ as1 g1 g2 g3 g4 =>
            refine ⟨(a, _, .tuple (.tuple cs :: rest)) :: ks, by rw [List.map_cons, ← e1], by rw [List.zip_cons_cons, List.map_cons, e2], by rw [List.map_cons, ← e3], fun k hk => ?_⟩
            rcases List.mem_cons.mp hk with rfl | hk
            · exact ⟨v1, _, .tuple g1 g2 g3 g4⟩
            · exact e4 k hk
  obtain ⟨ks, e1, e2, e3, e4⟩ := items its xs ds rv ok.row ⟨_, rd⟩
  have mem : ∀ k ∈ ks, k.2.2 ∈ ds := fun k hk => by rw [e3]; exact List.mem_map.mpr ⟨k, hk, rfl⟩
  have lk : ks.length = its.length := by rw [e1, List.length_map]
  refine set_of_keys (ks := ks.map fun k => (k.1, keyD k.2.2)) (I1.ok.hd hc) pl.isList ?_ (fun p hp => ?_) (by rw [List.length_map, lk, ← l1]; exact h64) (by omega) fun h2 tk ⟨L, es, ep, t, R, sub, all, len⟩ hk => args_nil ?_
  · rw [List.map_map]
    show its.toArray.toList = ks.map fun k => Value.ref k.1
    rw [List.toList_toArray]
    exact e1
  · obtain ⟨k, hk2, rfl⟩ := List.mem_map.mp hp
    obtain ⟨_, bs, r⟩ := e4 k hk2
    exact ⟨nested_of _ _ _ _ (ok.same _ (mem k hk2) _ (mem k hk2)) r, nk _ (mem k hk2)⟩
  have I2 : Inv X pins σ H1 { s1 with heap := h2, toks := tk } := I1.kept hk
  have up : ∀ k ∈ ks, ∃ bs, Reads h2 (.ref k.1) k.2.2 bs := fun k hk2 => by
    obtain ⟨_, bs, r⟩ := e4 k hk2
    exact ⟨bs, reads_keep (fun b o e _ => hk b o e) _ _ _ _ (ok.same _ (mem k hk2) _ (mem k hk2)) r⟩
  refine sorted_keys (ds := ds) R (I2.ok.hd hc) ok (fun p hp => ?_) (by show X.A.units + 53 < cLine; omega) fun s3 p out c T k3 g o3 hp hget eo pT rT pw hsz => ?_
  · obtain ⟨k, hk2, rfl⟩ := List.mem_map.mp (sub p hp)
    obtain ⟨bs, r⟩ := up k hk2
    exact ⟨k.2.2, mem k hk2, bs, rfl, r⟩
  -- each of the sorted ones is one of the items
  have back : ∀ q ∈ T, ∃ k ∈ ks, k.1 = q.1 ∧ k.2.2 = q.2 := fun q hq => by
    have m1 : (q.1, keyD q.2) ∈ L := pT.mem_iff.mp (List.mem_map.mpr ⟨q, hq, rfl⟩)
    obtain ⟨k, hk2, e⟩ := List.mem_map.mp (sub _ m1)
    have a1 : k.1 = q.1 := congrArg Prod.fst e
    refine ⟨k, hk2, a1, ?_⟩
    obtain ⟨md, bs, r⟩ := rT q hq
    obtain ⟨bs2, r2⟩ := up k hk2
    rw [a1] at r2
    exact SeqAt.Reads.unique _ _ _ _ _ (ok.lay _ (mem k hk2)) r2 r
  have lift : ∀ T' : List (Addr × PyData), (∀ q ∈ T', q ∈ T) → ∃ ps : List (V × PyData), ps.map (·.2) = T'.map (·.2) ∧ (∀ t ∈ ps, t ∈ xs.zip ds) ∧ Vals (ps.map (·.1)) (T'.map fun q => Value.ref q.1) := by
    intro T'
    induction T' with
    | nil => intro _; exact ⟨[], rfl, fun t ht => (by cases ht), .nil⟩
    | cons q T' ih =>
      intro hs
      obtain ⟨ps, a1, a2, a3⟩ := ih fun r hr => hs r (List.mem_cons_of_mem _ hr)
      obtain ⟨k, hk2, b1, b2⟩ := back q (hs q List.mem_cons_self)
      refine ⟨k.2 :: ps, by rw [List.map_cons, List.map_cons, a1, b2], fun t ht => ?_, ?_⟩
      · rcases List.mem_cons.mp ht with rfl | ht
        · rw [e2]; exact List.mem_map.mpr ⟨k, hk2, rfl⟩
        · exact a2 t ht
      · rw [List.map_cons, List.map_cons]
        refine .cons ?_ a3
        rw [← b1]
        exact (e4 k hk2).1
  obtain ⟨ps, a1, a2, a3⟩ := lift T fun q hq => hq
  rw [← eo] at a3
  have hlen : (ps.map (·.1)).length ≤ sizeLine := by rw [a3.length, Array.length_toList]; exact hsz
  obtain ⟨h3, g3, d3, t3, o4⟩ := s3
  obtain rfl : o4 = s1.os := o3
  have J : Inv X pins σ (upd H1 p (.lst (ps.map (·.1)))) ⟨h3, g3, d3, t3, s1.os⟩ := Inv.call (s := ⟨h2, s1.gens, s1.drawn, tk, s1.os⟩) (ch := []) I2 (Un.laid k3 hp (I2.hok.fresh hp)) (I2.hok.laid k3 hp ⟨hlen, out.toList, c, a3, hget⟩) (by rw [show g3 = s1.gens from g]; exact I2.bare) (fun _ z => nomatch z)
  refine ⟨.ref p, _, J, rfl, q1 ps p a2 (fun d hd2 => ?_) ?_ ?_ (I2.hok.fresh hp)⟩
  · rw [a1]
    rw [e3] at hd2
    obtain ⟨k, hk2, rfl⟩ := List.mem_map.mp hd2
    have m1 := all (k.1, keyD k.2.2) (by rw [List.take_length]; exact List.mem_map.mpr ⟨k, hk2, rfl⟩)
    obtain ⟨pl2, hpl, ek⟩ := List.mem_map.mp m1
    obtain ⟨q, hq, eq⟩ := List.mem_map.mp (pT.mem_iff.mpr hpl)
    refine List.mem_map.mpr ⟨q, hq, ?_⟩
    have e5 : keyD q.2 = keyD k.2.2 := (congrArg Prod.snd eq).trans ek
    exact keyD_inj _ _ _ _ (ok.same _ (rT q hq).1 _ (rT q hq).1) (ok.same _ (mem k hk2) _ (mem k hk2)) e5
  · rw [a1]
    have n1 : (L.map (·.2)).Nodup := R.nd
    have n2 : ((T.map fun q => (q.1, keyD q.2)).map (·.2)).Nodup := (pT.map (·.2)).nodup_iff.mpr n1
    rw [List.map_map] at n2
    refine nodup_of_map (f := keyD) ?_
    rw [List.map_map]
    exact n2
  · rw [a1]; exact pw⟩
def wSortSetN (we : WE) : WE := fun ρ Φ => we ρ fun d => match d with
  | .list xs => RowsL xs ∧ (∀ d ∈ xs, nkOk (keyD d) = true) ∧ ∀ es : List PyData, (∀ d, d ∈ es ↔ d ∈ xs) → es.Nodup → es.Pairwise (fun d e => ordD false e d = false) → Φ (.list es)
  | _ => False
theorem de_sortSetN (hK : X.K = G.W.K) (hc : X.calm = true) (hu : X.A.units + 65 < cLine) (hg : Gl X "sorted") (hm : X.mg "sorted" = none) (hg2 : Gl X "set") (hm2 : X.mg "set" = none) (ha : PE X e (up G s we)) (na : starEach [e] X.env = (false, eval e X.env) :: starEach [] X.env := by rfl) :
    PE X (.Call (.Name "sorted" p) [.Call (.Name "set" p2) [e] [] q] [] pos) (up G s (wSortSetN we)) := pe_weak (pe_sortSetN hc hu hg hm hg2 hm2 ha na) fun σ H Q ⟨an, O, ρ, Φ, S, h, q⟩ => by
  rw [hK]
  refine ⟨an, O, ρ, _, S, h, fun v H1 d h1 im k1 i1 => ?_⟩
  have S1 := S.keep k1 i1
  cases d with
  | list xs =>
    obtain ⟨hR, nk, h1⟩ := h1
    obtain ⟨p, ws, rfl, r, n, m⟩ := im
    have l1 := ImA.length m
    refine ⟨p, ws, xs, rfl, .inl (.inl r), ImA.dp _ _ (dOk.plain (n := 20) (d := .list xs) hR.fit) m, by rw [l1]; exact hR.few, hR.ok, nk, fun ps l a1 a2 a3 a4 hl => ?_⟩
    refine q _ _ _ (h1 (ps.map (·.2)) (fun d => ⟨fun hd => ?_, a2 d⟩) a3 a4) (S1.lst hl (ima_pairs fun t ht => ImA.zipp m t (a1 t ht))) (k1.trans (Keep.new hl)) (S1.newI hl)
    obtain ⟨t, ht, rfl⟩ := List.mem_map.mp hd
    exact (List.of_mem_zip (a1 t ht)).2
  | _ => exact h1.elim
end
end DL

namespace DL
open PySem PySem.Spec PyProof.Rows L2
def gLs (n : Nat) (g : WGs) : WG := fun d ρ Φ => match d with | .list ds => ds.length = n ∧ g ds ρ Φ | _ => False
section
variable {X : Cx} {G : Gx} {pos : Pos} {es : List Expr} {gs : WGs}
theorem dg_lst {k n : Nat} {is : List Nat} (hK : X.K = G.W.K) (hc : X.calm = true) (h : PGs X es (upGs G is gs)) (hn : (assignEach es X.env).length = n := by rfl) (hst : (assignEach es X.env).findIdx? (·.1) = none := by rfl) : PG X (.Tuple es k pos) (upG G is (gLs n gs)) :=
  pg_weak (pg_lst hc h hn hst) fun v σ H Q ⟨an, O, ρ, d, Φ, S, im, h, q⟩ => by
    unfold gLs at h
    split at h
    · obtain ⟨a, xs, rfl, r, _, m⟩ := im
      exact ⟨a, xs, rfl, by rw [hK]; exact .inl (.inl r), by rw [ImA.length m]; exact h.1, an, O, ρ, _, Φ, S, m, h.2, q⟩
    · exact h.elim
end
theorem shown_list {xs : List PyData} {m : Nat} (h : ∀ x ∈ xs, x.showable = true ∧ x.shown.length ≤ m) : (PyData.list xs).showable = true ∧ (PyData.list xs).shown.length ≤ xs.length * (m + 2) + 3 := by
  refine ⟨by simp only [PyData.showable]; exact showableAll_iff.mpr fun x hx => (h x hx).1, ?_⟩
  simp only [PyData.shown]
  rw [shownAll_map]
  have p := piled_le (m := m) (ts := xs.map PyData.shown) fun t ht => by
    obtain ⟨x, hx, rfl⟩ := List.mem_map.mp ht
    exact (h x hx).2
  rw [List.length_map] at p
  rw [listText_eq_join, Str.len_append, Str.len_append]
  have j : (Str.join ", " (xs.map PyData.shown)).length ≤ xs.length * (m + 2) := by
    cases xs with
    | nil => exact Nat.zero_le _
    | cons x r =>
      have := join_length_add ((x :: r).map PyData.shown) (by simp)
      omega
  have e1 : (("[" : Str)).length = 1 := rfl
  have e2 : (("]" : Str)).length = 1 := rfl
  omega
end DL

namespace DL
open PySem PySem.Spec PyProof.Rows L2
section
variable {X : Cx} {G : Gx} {pos p2 : Pos} {wl wh : WO} {lo hi : Option Expr}
def wSlO (i : Nat) (wl wh : WO) : WE := fun ρ Φ => match nth ρ i with | .o ds => (wl ρ fun lo => wh ρ fun hi => Φ (.list (cutG ds lo hi))) | _ => False
theorem de_slo (i : Nat) {x : Str} {p1 : Pos} (hl : PO X lo (upO G wl)) (hh : PO X hi (upO G wh)) (hN : X.N[i]? = some x := by rfl) (hv : Vis X.env.scope x := by first | exact Or.inl rfl | exact Or.inr (Or.inl rfl) | exact Or.inr (Or.inr rfl)) (hd : (x == ("__debug__" : Str)) = false := by decide)
    (hcd : (x == ("__classdict__" : Str)) = false := by decide) : PE X (.Subscript (.Name x p1) (.Slice lo hi none p2) pos) (up G true (wSlO i wl wh)) :=
  pe_weak (pe_slice sl_list (pe_var hN hv hd hcd) hl hh) fun σ H Q ⟨an, O, ρ, Φ, S, h, q⟩ => by
    have en := S.en i
    unfold wSlO at h
    cases hx : nth ρ i with
    | o ds =>
      rw [hx] at en h
      obtain ⟨p, vs, e1, e2, e3, im⟩ := en
      have nm : ¬ G.R.M p := fun m => by
        obtain ⟨o, z2⟩ := S.al p (S.ra p m)
        rw [(S.fr i p e2).1] at z2
        cases z2
      refine ⟨.ref p, e1, an, O, ρ, _, S, h, fun lo H2 h2 k2 i2 => ?_⟩
      have S2 := S.keep k2 i2
      refine ⟨an, O, ρ, _, S2, h2, fun hi H3 h3 k3 i3 => ?_⟩
      have S3 := S2.keep k3 i3
      have kk := k2.trans k3
      exact ⟨p, vs, rfl, .inl (.inl (kk.ob p _ e3 nm)), fun p2 hp => q _ _ _ h3 (S3.lst (s := true) hp (ImA.cut (ImA.keep (S.ka (s := true) kk) _ _ im) _ _)) (kk.trans (Keep.new hp)) (S3.newI hp)⟩
    | d x => rw [hx] at h; exact h.elim
    | m => rw [hx] at h; exact h.elim
    | u => rw [hx] at h; exact h.elim
    | s ns => rw [hx] at h; exact h.elim
def wListRg2 (wa wb : WE) : WE := fun ρ Φ => wa ρ fun x => wb ρ fun y => match x, y with | .int i, .int j => 0 ≤ i ∧ i ≤ j ∧ j ≤ 100000 ∧ Φ (.list (intsFrom i (j - i).toNat)) | _, _ => False
theorem ima_rg2 {W : Wd} {N : Addr → Prop} {H : Hp} {i j : Int} : ImA W N H (intsFrom i (j - i).toNat) (rgV i j) := by
  have e1 : intsFrom i (j - i).toNat = ((List.range (j - i).toNat).map fun (k : Nat) => i + (k : Int)).map PyData.int := by unfold intsFrom; rw [List.map_map]; rfl
  have e2 : rgV i j = ((List.range (j - i).toNat).map fun (k : Nat) => i + (k : Int)).map V.int := by unfold rgV; rw [List.map_map]; rfl
  rw [e1, e2]
  exact ImA.of_ints _
variable {a b : Expr} {wa wb : WE} {s s1 s2 : Bool} {p q : Pos}
theorem de_listRg2 (hc : X.calm = true) (hg : Gl X "list") (hm : X.mg "list" = none) (hg2 : Gl X "range") (hm2 : X.mg "range" = none) (ha : PE X a (up G s1 wa)) (hb : PE X b (up G s2 wb)) (na : starEach [a, b] X.env = (false, eval a X.env) :: starEach [b] X.env := by rfl) (nb : starEach [b] X.env = (false, eval b X.env) :: starEach [] X.env := by rfl) (nc : (backTo q (starEach [b] X.env)).any (·.1) = false := by rfl) (nl : starEach [.Call (.Name "range" p2) [a, b] [] q] X.env = (false, eval (.Call (.Name "range" p2) [a, b] [] q) X.env) :: starEach [] X.env := by rfl) :
    PE X (.Call (.Name "list" p) [.Call (.Name "range" p2) [a, b] [] q] [] pos) (up G s (wListRg2 wa wb)) :=
  pe_weak (pe_listRg hc hg hm (prg_2 hg2 hm2 ha hb na nb nc) nl) fun σ H Q ⟨an, O, ρ, Φ, S, h, q⟩ => by
    refine ⟨an, O, ρ, _, S, h, fun v H1 d h1 im k1 i1 => ?_⟩
    have S1 := S.keep k1 i1
    refine ⟨an, O, ρ, _, S1, h1, fun v2 H2 d2 h2 im2 k2 i2 => ?_⟩
    have S2 := S1.keep k2 i2
    cases d with
    | int i =>
      cases d2 with
      | int j => exact ⟨i, j, im, im2, ⟨by omega, by omega, by omega, by omega, by omega⟩, fun p hp => q _ _ _ h2.2.2.2 (S2.lst hp ima_rg2) ((k1.trans k2).trans (Keep.new hp)) (S2.newI hp)⟩
      | _ => exact h2.elim
    | _ => exact h2.elim
end
end DL

namespace DL
open PySem PySem.Spec PyProof.Rows L2

section
variable {X : Cx} {G : Gx} {pos spos : Pos} {s s1 s2 : Bool} {e a b c : Expr} {es : List Expr} {we wa wb : WE} {wr : WA} {wt : WT} {fa fb : WF}
/-- what reads a list of one's own as a whole and gives a value without lists -/
def wTight (we : WE) : WE := fun ρ Φ => we ρ fun d => lstFree d = true ∧ Φ d
theorem de_tight (h : PE X e (up G false we)) : PE X e (up G true (wTight we)) := pe_weak h fun σ H Q ⟨an, O, ρ, Φ, S, hw, q⟩ =>
  ⟨an, O, ρ, _, S, hw, fun v H' d p im k i => q v H' d p.2 (Im.free d v p.1 im) k i⟩
/-- a new list from two -/
def wAddF (wa wb : WE) : WF := fun ρ Φ => wa ρ fun x => wb ρ fun y => match x, y with | .list xs, .list ys => xs.length + ys.length ≤ 100000 ∧ Φ (xs ++ ys) | _, _ => False
theorem df_add (hK : X.K = G.W.K) (ha : PE X a (up G true wa)) (hb : PE X b (up G true wb)) : PE X (.BinOp a .Add b pos) (upF G (wAddF wa wb)) := pe_weak (pe_op op_addU ha hb) fun σ H Q ⟨an, O, ρ, Φ, S, h, q⟩ => by
  rw [hK]
  refine ⟨an, O, ρ, _, S, h, fun v H1 d h1 im k1 i1 => ?_⟩
  have S1 := S.keep k1 i1
  refine ⟨an, O, ρ, _, S1, h1, fun v2 H2 d2 h2 im2 k2 i2 => ?_⟩
  have S2 := S1.keep k2 i2
  have im1 := S1.im k2 im
  split at h2
  · obtain ⟨p, xs, rfl, r1, n1, m1⟩ := im1
    obtain ⟨p2, ys, rfl, r2, n2, m2⟩ := im2
    have l1 := ImA.length m1
    have l2 := ImA.length m2
    refine .inr (.inr (.inl ⟨p, p2, xs, ys, rfl, rfl, r1, r2, line5 (by omega), fun l hl => ?_⟩))
    refine q l _ _ _ h2.2 (S.newAt (k1.trans k2) i2 hl) upd_same ?_ ((k1.trans k2).trans (Keep.new hl)) (S2.newI hl)
    exact ImA.keep (Keep.new hl) _ _ (ImA.avoid (fun a o e z => z.elim id fun z => by rw [z, hl] at e; cases e) _ _ (ImA.append m1 m2))
  · exact h2.elim
/-- a new list, one or another -/
def wIfF (wt : WT) (fa fb : WF) : WF := fun ρ Φ => wt ρ fun c => if c = true then fa ρ Φ else fb ρ Φ
theorem df_ife (hc : PT X c (upT G wt)) (ha : PE X a (upF G fa)) (hb : PE X b (upF G fb)) : PE X (.IfExp c a b pos) (upF G (wIfF wt fa fb)) := pe_weak (pe_ifExp hc ha hb) fun σ H Q ⟨an, O, ρ, Φ, S, h, q⟩ => by
  refine ⟨an, O, ρ, _, S, h, fun t H1 h1 k1 i1 => ?_⟩
  have S1 := S.keep k1 i1
  cases t with
  | true =>
    dsimp only at h1 ⊢
    rw [if_pos rfl] at h1 ⊢
    exact ⟨an, O, ρ, Φ, S1, h1, fun p H2 ds vs hd hp hH im k2 i2 => q p H2 ds vs hd (S.newAt k1 i1 hp) hH im (k1.trans k2) i2⟩
  | false =>
    dsimp only at h1 ⊢
    rw [if_neg Bool.false_ne_true] at h1 ⊢
    exact ⟨an, O, ρ, Φ, S1, h1, fun p H2 ds vs hd hp hH im k2 i2 => q p H2 ds vs hd (S.newAt k1 i1 hp) hH im (k1.trans k2) i2⟩
/-- t.index(x): the first place of an equal one, t a tuple of data (the rule: see NOTES) -/
def wIndexT (wa wb : WE) : WE := fun ρ Φ => wa ρ fun t => match t with
  | .tuple ds => (wb ρ fun d => Fit (.tuple ds) ∧ Fit d ∧ ∃ (j : Nat) (z : PyData), ds[j]? = some z ∧ PyData.eqv z d = true ∧ (∀ (m : Nat) (z' : PyData), m < j → ds[m]? = some z' → PyData.eqv z' d = false) ∧ Φ (.int (j : Nat)))
  | _ => False
end
end DL

namespace DL
open PySem PySem.Spec PyProof.Rows L2

section
variable {X : Cx}
/-- tuple(a list): the new object is known -/
theorem call_tuple_frz : CallR X (.type "tuple") (fun xs H Q => ∃ p ys, xs = [.ref p] ∧ SqL X.K H p ys ∧ ∀ l o, H l = none → o.cls = .type "tuple" → o.dict = none → Q (.ref l) (upd H l (.frz o (.tup ys)))) := by
  intro pins s σ H xs us Q I r h
  obtain ⟨p, ys, rfl, hq, q⟩ := h
  obtain ⟨u, rfl, rx⟩ := vals1 r
  cases rx
  obtain ⟨its, r', pl, hz⟩ := I.list hq
  have hlen := r'.length
  refine call_tuple_list pl.isList (fun h' kp => ?_) (by simp only [List.size_toArray] <;> omega)
  have I1 : Inv X pins σ H { s with heap := h' } := I.kept (t' := s.toks) kp
  have I2 : Inv X pins σ (upd H h'.objs.size (.frz { cls := .type "tuple", data := .seq its.toArray } (.tup ys))) { s with heap := h'.push { cls := .type "tuple", data := .seq its.toArray } } :=
    I1.laid (t' := s.toks) (fun b o e => Heap.get?_push_of_some _ e) (Nat.le_refl _) (show ObjOk X.prog X.w _ _ _ (.frz { cls := .type "tuple", data := .seq its.toArray } (.tup ys)) from ⟨Heap.get?_push_size _ rfl, hz, its, r', IsTup.new _ _⟩)
  exact ⟨.ref h'.objs.size, _, I2, rfl, q _ _ (I1.hok.fresh (Nat.le_refl _)) rfl rfl⟩
/-- t.index(x) -/
def rIndexDT (K : PySem.W.Frag) : V → List V → Hp → VK → Prop := fun x xs H Q => ∃ (a : Addr) (y : V) (d : PyData) (ds : List PyData) (j : Nat) (z : PyData), x = V.ref a ∧ xs = [y] ∧ Dp K H (V.ref a) (.tuple ds) ∧ Dp K H y d ∧
  SeqAt.shaped (.tuple ds) = true ∧ SeqAt.shaped d = true ∧ ds[j]? = some z ∧ PyData.eqv z d = true ∧ (∀ (m : Nat) (z' : PyData), m < j → ds[m]? = some z' → PyData.eqv z' d = false) ∧ Q (.int (j : Nat)) H
theorem mt_indexDT (hu : X.A.units + 65 < cLine) : MtR X "tuple.index" (rIndexDT X.K) := by
  intro pins s σ H x xs v us Q I rx rxs h
  obtain ⟨a, y, d, ds, j, z, rfl, rfl, hl, hy, sl, sd, hz, hzj, hno, q⟩ := h
  cases rx
  cases rxs with
  | cons ry rt =>
    rename_i uy ut
    cases rt
    obtain ⟨bs, r1⟩ := Dp.reads I d y uy hy ry
    have hxs : PyData.canLayAll0 ds = true := SeqAt.canLay_of_shaped sl
    have hroom : X.A.units + 1 + min (PyData.depthAll ds) d.depth < cLine := room_in_shaped sd hu
    cases hl with
    | tup hs ha =>
      obtain ⟨its, rv, ⟨⟨cls, dd, data, sls⟩, ho, hc, n, hdt⟩, hlen⟩ := I.tuple hs
      simp only at hc hdt
      subst hc hdt
      obtain ⟨as, h4⟩ := Dp.readsAll I ds _ its ha rv
      have hn : its.length = ds.length := SeqAt.ReadsAll.length ds its as h4
      have hmap : its.map (SeqAt.readOf s.heap) = ds := SeqAt.readsAll_map ds its as hxs h4
      obtain ⟨hjd, _⟩ := List.getElem?_eq_some_iff.mp hz
      have hjl : j < its.length := by omega
      have hj : j < its.toArray.size := by simpa using hjl
      have at_ : ∀ (m : Nat) (hm : m < its.toArray.size) (z' : PyData), ds[m]? = some z' → SeqAt.readOf s.heap its.toArray[m] = z' := by
        intro m hm z' hz'
        have hml : m < its.length := by simpa using hm
        rw [← hmap, List.getElem?_map, List.getElem?_eq_getElem hml] at hz'
        have e1 : SeqAt.readOf s.heap its[m] = z' := Option.some.inj (show some (SeqAt.readOf s.heap its[m]) = some z' from hz')
        simpa using e1
      refine call_meets PySem.F.slot_tuple_index ⟨_, ho, rfl⟩ PySem.F.entry_tuple_index (PySem.F.args_tuple_index_2 _ _)
        (TI.tuple_indexAt a its.toArray n dd sls uy (fun u => PyData.eqv (SeqAt.readOf s.heap u) d) j hj ?_ ?_) ⟨ho, SeqAt.items_eqAt (vs := its.toArray) (show ReadsAll s.heap its.toArray.toList ds as from h4) r1 hxs (SeqAt.canLay_of_shaped sd) hroom, ?_⟩
      · show PyData.eqv (SeqAt.readOf s.heap its.toArray[j]) d = true
        rw [at_ j hj z hz]
        exact hzj
      · intro m hm hmj
        have hmd : m < ds.length := by
          have : m < its.length := by simpa using hm
          omega
        have hz' : ds[m]? = some ds[m] := List.getElem?_eq_getElem hmd
        show PyData.eqv (SeqAt.readOf s.heap its.toArray[m]) d = false
        rw [at_ m hm _ hz']
        exact hno m _ hmj hz'
      · exact ⟨.int (j : Nat), H, I.tok _, ⟨_, rfl⟩, q⟩
def tTix (K : PySem.W.Frag) (to : TE) (t : TA) : TE := fun σ H Q => to σ H fun x H1 => (∃ p ob xs, x = V.ref p ∧ H1 p = some (.frz ob (.tup xs)) ∧ ob.cls = .type "tuple" ∧ ob.dict = none) ∧ t σ H1 fun ys H2 => rIndexDT K x ys H2 Q
variable {o e : Expr} {es : List Expr} {to : TE} {t : TA} {apos cpos : Pos}
theorem pe_tix (hu : X.A.units + 65 < cLine) (ho : PE X o to) (ha : PA X (e :: es) t)
    (hbase : attributeBase o "index" X.env (eval o X.env) = eval o X.env := by rfl)
    (hfew : ((backTo cpos (starEach (e :: es) X.env)).all (fun x => !x.1) && (backToKw cpos (keywordEach [] X.env)).all (fun x => x.1.isSome)
      && decide ((e :: es).length + ([] : List Keyword).length + (if ([] : List Keyword).isEmpty then 0 else 1) < 30)) = true := by rfl)
    (hline : (apos.endLine == cpos.line) = true := by rfl) (hs : starEach (e :: es) X.env = (false, eval e X.env) :: starEach es X.env := by rfl) (hplain : (backTo cpos (starEach es X.env)).any (·.1) = false := by rfl) :
    PE X (.Call (.Attribute o "index" apos) (e :: es) [] cpos) (tTix X.K to t) := by
  refine ⟨fun pins s σ H Q I h => ?_⟩
  refine wpAny_Call_method_late hbase hfew hline rfl (thn (ho.run pins s σ H _ I h) fun v s1 ⟨x, H1, I1, r1, ty, q1⟩ => ?_)
  obtain ⟨p, ob, xs, rfl, hp, hc, hd⟩ := ty
  cases r1
  have eob := (I1.hok p _ hp).1
  refine ⟨"tuple", "tuple.index", PySem.F.plainAttrs_tuple, PySem.F.slot_tuple_index, PySem.F.type_tuple_index, ⟨ob, eob, hc⟩, fun a z => by cases z; exact ⟨ob, eob, hd⟩, ?_⟩
  have hA := ha.run cpos pins s1 σ H1 _ I1 q1
  rw [hs] at hA ⊢
  refine Calls.callWith_builtin (by show (false || (backTo cpos (starEach es X.env)).any (·.1)) = false; rw [hplain] <;> rfl) (Calls.evalArgs_plain ?_)
  exact thn hA fun us s2 ⟨vs, H2, I2, r2, q2⟩ => mt_indexDT hu pins s2 σ H2 (.ref p) vs (.ref p) us Q I2 rfl r2 q2
end

theorem Im.un {W : Wd} {N : Addr → Prop} {H : Hp} {z : PyData} {v : V} (h : Im W N H (.dict [(.none, z)]) v) : Im W N H z v := by
  rcases h with ⟨a, rfl, n, ⟨c, _⟩ | ⟨_, dx, fs, _, x, w, r, _, c, _⟩⟩ | ⟨a, o, xs, rfl, _, _, _, _, _, m⟩
  · cases c
  · cases c
  · exact m
theorem Im.known {W : Wd} {N : Addr → Prop} {H : Hp} {z : PyData} {v : V} (h : Im W N H (.dict [(.none, z)]) v) : ∃ p ob xs, v = V.ref p ∧ H p = some (.frz ob (.tup xs)) ∧ ob.cls = .type "tuple" ∧ ob.dict = none := by
  rcases h with ⟨a, rfl, n, ⟨c, _⟩ | ⟨_, dx, fs, _, x, w, r, _, c, _⟩⟩ | ⟨a, o, xs, rfl, e, c, d, _⟩
  · cases c
  · cases c
  · exact ⟨a, o, xs, rfl, e, c, d⟩
section
variable {X : Cx} {G : Gx} {pos apos cpos : Pos} {s s1 s2 : Bool} {e o : Expr} {es : List Expr} {we wa wb : WE} {wr : WA}
/-- a mark is forgotten -/
def wUn (we : WE) : WE := fun ρ Φ => we ρ fun d => match d with | .dict [(.none, z)] => Φ z | _ => False
theorem de_un (h : PE X e (up G s we)) : PE X e (up G s (wUn we)) := pe_weak h fun σ H Q ⟨an, O, ρ, Φ, S, hw, q⟩ => by
  refine ⟨an, O, ρ, _, S, hw, fun v H' d p im k i => ?_⟩
  split at p
  · exact q v H' _ p (Im.un im) k i
  · exact p.elim
/-- a mark is forgotten if there is one -/
def unO : PyData → PyData
  | .dict [(.none, z)] => z
  | d => d
def wUnO (we : WE) : WE := fun ρ Φ => we ρ fun d => Φ (unO d)
theorem Im.unO {W : Wd} {N : Addr → Prop} {H : Hp} {d : PyData} {v : V} (h : Im W N H d v) : Im W N H (unO d) v := by
  unfold DL.unO
  split
  · exact Im.un h
  · exact h
theorem de_unO (h : PE X e (up G s we)) : PE X e (up G s (wUnO we)) := pe_weak h fun σ H Q ⟨an, O, ρ, Φ, S, hw, q⟩ =>
  ⟨an, O, ρ, _, S, hw, fun v H' d p im k i => q v H' _ p (Im.unO im) k i⟩
/-- the mark of an object's second attribute is forgotten -/
def wUn2 (we : WE) : WE := fun ρ Φ => we ρ fun d => match d with | .dict [(k, z), (k2, .dict [(.none, z2)])] => Φ (.dict [(k, z), (k2, z2)]) | _ => False
theorem de_un2 (h : PE X e (up G s we)) : PE X e (up G s (wUn2 we)) := pe_weak h fun σ H Q ⟨an, O, ρ, Φ, S, hw, q⟩ => by
  refine ⟨an, O, ρ, _, S, hw, fun v H' d p im k i => ?_⟩
  split at p
  · rename_i k1 z k2 z2
    refine q v H' _ p ?_ k i
    rcases im with ⟨a, rfl, n, ⟨c, _⟩ | ⟨_, dx, fs, e1, x, w, r, e2, c, m, y, w2, r2, e3, c2, m2, m3⟩⟩ | ⟨_, _, _, _, _, _, _, _, c, _⟩
    · cases c
    · exact .inl ⟨a, rfl, n, .inr ⟨List.cons_ne_nil _ _, dx, fs, e1, x, w, r, e2, c, m, y, w2, r2, e3, c2, Im.un m2, m3⟩⟩
    · cases c
  · exact p.elim
/-- tuple(a list), marked -/
def fTupleM : List PyData → (PyData → Prop) → Prop := fun ds Φ => match ds with | [.list xs] => Φ (.dict [(.none, .tuple xs)]) | _ => False
theorem cd_tupleM : CallD G s s (fun xs H Q => ∃ p ys, xs = [.ref p] ∧ SqL G.W.K H p ys ∧ ∀ l o, H l = none → o.cls = .type "tuple" → o.dict = none → Q (.ref l) (upd H l (.frz o (.tup ys)))) fTupleM := by
  intro an O σ ρ H vs ds Φ Q S hv hf q
  unfold fTupleM at hf
  split at hf
  · obtain ⟨v, rfl, im⟩ := im1 hv
    obtain ⟨p, xs, rfl, r, n, m⟩ := im
    exact ⟨p, xs, rfl, .inl (.inl r), fun l o hl hc hd => q _ _ _ hf (.inr ⟨l, o, xs, rfl, upd_same, hc, hd, rfl, rfl, l, xs, rfl, .inl (.inr ⟨o, upd_same⟩), ImA.keep (Keep.new hl) _ _ m⟩) (Keep.new hl) (S.newI hl)⟩
  · exact hf.elim
/-- t.index(x), t marked -/
def wIndexM (wa wb : WE) : WE := fun ρ Φ => wa ρ fun t => match t with
  | .dict [(.none, .tuple ds)] => (wb ρ fun d => Fit (.tuple ds) ∧ Fit d ∧ ∃ (j : Nat) (z : PyData), ds[j]? = some z ∧ PyData.eqv z d = true ∧ (∀ (m : Nat) (z' : PyData), m < j → ds[m]? = some z' → PyData.eqv z' d = false) ∧ Φ (.int (j : Nat)))
  | _ => False
theorem de_indexM (hK : X.K = G.W.K) (hu : X.A.units + 65 < cLine) (ho : PE X o (up G s1 wa)) (he : PE X e (up G s2 wb))
    (hbase : attributeBase o "index" X.env (eval o X.env) = eval o X.env := by rfl)
    (hfew : ((backTo cpos (starEach [e] X.env)).all (fun x => !x.1) && (backToKw cpos (keywordEach [] X.env)).all (fun x => x.1.isSome)
      && decide ([e].length + ([] : List Keyword).length + (if ([] : List Keyword).isEmpty then 0 else 1) < 30)) = true := by rfl)
    (hline : (apos.endLine == cpos.line) = true := by rfl) (hs : starEach [e] X.env = (false, eval e X.env) :: starEach [] X.env := by rfl) (hplain : (backTo cpos (starEach [] X.env)).any (·.1) = false := by rfl) :
    PE X (.Call (.Attribute o "index" apos) [e] [] cpos) (up G s (wIndexM wa wb)) :=
  pe_weak (pe_tix hu ho (pa_cons he pa_nil hs) hbase hfew hline hs hplain) fun σ H Q ⟨an, O, ρ, Φ, S, h, q⟩ => by
    rw [hK]
    refine ⟨an, O, ρ, _, S, h, fun v H1 d h1 im k1 i1 => ?_⟩
    split at h1
    · rename_i ds
      have S1 := S.keep k1 i1
      refine ⟨Im.known im, an, O, ρ, _, S1, h1, fun v2 H2 d2 h2 im2 k2 i2 => ?_⟩
      have S2 := S1.keep k2 i2
      obtain ⟨p, ob, xs, rfl, _⟩ := Im.known im
      obtain ⟨f1, f2, j, z, hj, hz, hno, hq⟩ := h2
      have im1 := Im.un (S1.im k2 im)
      exact ⟨p, v2, d2, ds, j, z, rfl, rfl, Im.dp _ _ (dOk.plain f1) im1, Im.dp _ _ (dOk.plain f2) im2, dOk.shaped f1, dOk.shaped f2, hj, hz, hno, q _ H2 _ hq rfl (k1.trans k2) i2⟩
    · exact h1.elim
end
end DL

namespace DL
open PySem PySem.Spec PyProof.Rows L2
theorem tuple_mul0 (l : Addr) (items : Array Value) (n : Nat) (dd : Option Addr) (sl : Array (Option Value)) (x : Int) (u : Tok) (c0 : (decide (x < -(2 ^ 63)) || decide (x ≥ 2 ^ 63)) = false) (c1 : (items.isEmpty || x == 1) = false) (c2 : (decide (x ≤ 0) || items.isEmpty) = true) :
    Meets (Builtin.«tuple.__mul__» ⟨[.ref l, .int x u], []⟩) (fun _ R s => s.heap.get? l = some { cls := .type "tuple", dict := dd, data := .seq items n, slots := sl } ∧
      R (.ok (.ret (Value.ref s.heap.objs.size))) { s with heap := s.heap.push { cls := Value.type "tuple", data := Data.seq #[] }, toks := s.toks }) :=
  .of_wp fun prog w A R s h => by
    obtain ⟨hp, g, d, tk, os⟩ := s
    obtain ⟨hl, h⟩ := h
    have f1 := AutoSeq1.idx_int
    wp_walk using wpAny_loadPart' hl
    repeat (first
      | (refine wpAny_ite_false (decide_eq_false (by rw [c0]; exact Bool.false_ne_true)) ?_; wp_walk using wpAny_loadPart' hl)
      | (refine wpAny_ite_false (decide_eq_false (by rw [c1]; exact Bool.false_ne_true)) ?_; wp_walk using wpAny_loadPart' hl)
      | (refine wpAny_ite_true (decide_eq_true c2) ?_; wp_walk using wpAny_loadPart' hl))
    exact ⟨_, rfl, h⟩
def rRep0 (K : PySem.W.Frag) : R2 := fun x y H Q => ∃ l k xs, x = .ref l ∧ y = .int k ∧ SqT K H l xs ∧ xs ≠ [] ∧ -1000 ≤ k ∧ k ≤ 0 ∧ ∀ p, H p = none → Q (.ref p) (upd H p (.tup []))
section
variable {X : Cx}
theorem op_rep0 : OpR X (binaryOp .Mult) (rRep0 X.K) := by
  intro pins s σ H x y v u Q I rx ry h
  obtain ⟨l, k, xs, rfl, rfl, hT, hne, h1, h2, q⟩ := h
  cases rx
  obtain ⟨t, rfl⟩ := ry
  obtain ⟨its, r, ⟨⟨cls, dd, data, sl⟩, ho, hc, n, hd⟩, hs⟩ := I.tuple hT
  simp only at hc hd
  subst hc hd
  have hle : its.length = xs.length := r.length.symm
  have hn : its ≠ [] := fun e => hne (by
    rw [e] at hle
    exact List.eq_nil_of_length_eq_zero hle.symm)
  have hi : its.toArray.isEmpty = false := by
    cases its with
    | nil => exact absurd rfl hn
    | cons a b => rfl
  have c0 : (decide (k < -(2 ^ 63)) || decide (k ≥ 2 ^ 63)) = false := by
    rw [decide_eq_false (by omega), decide_eq_false (by omega)] <;> rfl
  have c1 : (its.toArray.isEmpty || k == 1) = false := by
    rw [hi, Bool.false_or]
    exact beq_eq_false_iff_ne.mpr (by omega)
  have c2 : (decide (k ≤ 0) || its.toArray.isEmpty) = true := by
    rw [hi, Bool.or_false]
    exact decide_eq_true h2
  refine wpAny_binaryOp_repeat_ref (T := "tuple") (U := "int") (by decide) ⟨_, ho, rfl⟩ (fun s' => typeIs_int s' k t) noFill_tuple_mul F.fills_int_mul F.slot_int_rmul repeat_tuple F.slot_int_index.lookup
    (call_meets F.slot_int_rmul (typeIs_int s k t) F.entry_int_rmul (F.args_int_rmul_2 _ _) (int_rmul_tuple k t l its.toArray n dd sl)
      ⟨ho, rfl, ⟨_, ho, rfl⟩, call_meets F.slot_tuple_mul ⟨_, ho, rfl⟩ F.entry_tuple_mul (F.args_tuple_mul_2 _ _) (tuple_mul0 l its.toArray n dd sl k t c0 c1 c2) ⟨ho, ?_⟩⟩)
  refine ⟨.ref s.heap.objs.size, _, I.laid (t' := s.toks) (o := .tup []) (fun b ob q => Heap.get?_push_of_some _ q) (Nat.le_refl _) ?_, rfl, q _ (I.hok.fresh (Nat.le_refl _))⟩
  exact ⟨Nat.zero_le _, [], .nil, IsTup.new _ _⟩
def fMulZ : PyData → PyData → (PyData → Prop) → Prop := fun x y Φ => match x, y with
  | .tuple as, .int k => -1000 ≤ k ∧ k ≤ 1000 ∧ as ≠ [] ∧ as.length ≤ 100 ∧ Φ (.tuple (List.replicate k.toNat as).flatten)
  | _, _ => False
theorem op_mulZ : OpR X (binaryOp .Mult) (fun x y H Q => rRep0 X.K x y H Q ∨ rMulT X.K x y H Q) := opR_or op_rep0 op_mulT
variable {G : Gx} {s s2 : Bool}
theorem od_mulZ : OpD G s s s2 (fun x y H Q => rRep0 G.W.K x y H Q ∨ rMulT G.W.K x y H Q) fMulZ := by
  intro an O σ ρ H x y d e Φ Q S hx hy hf q
  unfold fMulZ at hf
  split at hf
  · rename_i as k
    obtain ⟨h1, h2, h3, h4, hf⟩ := hf
    by_cases z : 1 ≤ k
    · exact .inr (od_mulT (s := s) (s2 := s2) an O σ ρ H x y (.tuple as) (.int k) Φ Q S hx hy ⟨z, h2, h3, h4, hf⟩ q)
    · obtain rfl : y = .int k := hy
      obtain ⟨l, xs, rfl, r, m⟩ := hx
      have len := ImA.length m
      have e0 : (List.replicate k.toNat as).flatten = [] := by rw [show k.toNat = 0 by omega]; rfl
      rw [e0] at hf
      exact .inl ⟨l, k, xs, rfl, rfl, r, fun e => h3 (List.eq_nil_of_length_eq_zero (by rw [← len, e]; rfl)), h1, by omega, fun p hp => q _ _ _ hf (S.tup hp (ds := []) (vs := []) rfl) (Keep.new hp) (S.newI hp)⟩
  · exact hf.elim
end
end DL

namespace DL
open PySem PySem.Spec PyProof.Rows L2

abbrev Suites := List (Value × (Addr → Value → Option Addr → TS))
/-- the ends of a suite: slot i is empty again -/
def outS (i : Nat) (D : Ends) : Ends := ⟨fun t G => D.nx (t.set i none) G, D.rt, fun t G => D.bk (t.set i none) G, fun t G => D.ct (t.set i none) G⟩
/-- what the clauses wish, one after the other -/
def wNam (K : PySem.W.Frag) (i : Nat) (Wo : L2.WX) (D : Ends) : Suites → L2.WX
  | [] => Wo
  | q :: r => fun cl d t G => ∃ b, PySem.W.exmOne K cl q.1 = some b ∧ (b = true → ∀ e, G e = none → q.2 e cl d (outS i D) (t.set i (some (.ref e))) G) ∧ (b = false → wNam K i Wo D r cl d t G)
inductive NamOk (X : Cx) (n : Str) : List ExceptHandler → Suites → Prop
  | done : NamOk X n [] []
  | more {y : Str} {k : Value} {tt : Addr → Value → Option Addr → TS} {s0 : Stmt} {ss : List Stmt} {yp hp : Pos} {hs : List ExceptHandler} {l : Suites} (nm : Names X y k)
      (su : ∀ (e : Addr) (o : Obj) (cl : Value) (d : Option Addr) (pn : List (Addr × Obj)), Zc cl d o → (∃ vs, o.data = .fields vs) → PSs (X.suite e ((e, o) :: pn)) (s0 :: ss) (tt e cl d)) (rest : NamOk X n hs l) :
      NamOk X n (.ExceptHandler (some (.Name y yp)) (some n) (s0 :: ss) hp :: hs) ((k, tt) :: l)
section
variable {X : Cx} {n : Str} {i : Nat} {body : List Stmt} {c₀ : ExceptHandler} {cs : List ExceptHandler} {l : Suites} {pos : Pos} {tb : L2.WX → TS} {Wo : L2.WX}
theorem ps_try_named (st : X.stack = X.env :: X.outer) (fr : X.env.frame = some X.env.locals) (nd : X.N.Nodup) (hi : X.N[i]? = some n) (lc : X.env.kindOf n = some .local) (tk : Takes X Wo)
    (hb : ∀ (W : L2.WX) (pn : List (Addr × Obj)) (xe : Value → Shared → Prop), Takes (X.tr pn xe) W → PassesOwn (model X.prog X.w) X.A X.env xe → PSs (X.tr pn xe) body (tb W))
    (hh : NamOk X n (c₀ :: cs) l) : PS X (.Try body (c₀ :: cs) [] [] pos) (fun D t G => tb (wNam X.K i Wo D l) D t G) := by
  constructor
  intro pins z0 t0 G0 D I0 h0
  have good := I0.ok
  have frs_ : X.A.frames = some (X.env :: X.outer) := good.frames.trans (by rw [st])
  have isL : Loc X.env.scope n := Or.inl lc
  apply wpAny_Try_except
  have bodyR := (hb (wNam X.K i Wo D l) (X.pn ++ pins) (fun e y1 => wpAny (model X.prog X.w) X.A (noteFrame e X.env) (fun _ y2 => wpAny (model X.prog X.w) X.A (setFlight e none)
      (fun _ y3 => wpAny (model X.prog X.w) X.A (handleBy e X.env (c₀ :: cs)) (SP X pins D) X.xe y3) X.xe y2) X.xe y1) (fun u z' caught => ?_) PassesOwn.looking).run [] z0 t0 G0 D (I0.toTry _) h0
  · refine wpAny_mono bodyR (fun fl z1 hz => ?_) fun _ _ q => q
    rcases fl with _ | _ | _ | u
    · obtain ⟨t', G', J', q⟩ := hz; exact wpAny_execs_nil ⟨t', G', J'.ofTry good, q⟩
    all_goals first
      | (obtain ⟨t', G', J', q⟩ := hz; exact ⟨t', G', J'.ofTry good, q⟩)
      | (obtain ⟨v, t', G', J', r, q⟩ := hz; exact ⟨v, t', G', J'.ofTry good, r, q⟩)
  -- the clauses, one after the other
  obtain ⟨e, B, zI, pins', t', G', cl, d, rfl, Jt, nb, up, sky, ne, os, ag, wish⟩ := caught
  have J : Inv X pins t' G' zI := Jt.ofTry good
  have sky2 : Sky B (X.env :: X.outer) e (Zc cl d) X.env.locals z'.heap := st ▸ sky
  show wpAny (model X.prog X.w) X.A (noteFrame (.ref e) X.env) _ _ _
  apply Sky.land Zc.steady frs_ fr sky2
  intro h3 fl3 up3
  have J3 : Inv X pins t' G' { z' with heap := h3 } := J.landed nb fl3.1 (up.trans up3) os ag
  obtain ⟨o3, vs3, at3, zc3, dt3⟩ := fl3.there
  have noFr : e ∉ frs (X.env :: X.outer) := fun hm => by
    obtain ⟨_, ox, ex, no⟩ := fl3.2.2.1.mem hm
    rw [at3] at ex
    cases ex
    exact no _ dt3
  have noL : e ≠ X.env.locals := fun q => noFr (List.mem_filterMap.mpr ⟨X.env, List.mem_cons_self, fr.trans (by rw [q])⟩)
  have noF : e ∉ X.fs := fun hm => by
    obtain ⟨v, hv, q⟩ := List.mem_filterMap.mp hm
    exact noFr (List.mem_filterMap.mpr ⟨v, List.mem_cons_of_mem _ hv, q⟩)
  have S3 := J3.suite at3 dt3 ne noL noF
  have all : ∀ {ks : List ExceptHandler} {m : Suites}, NamOk X n ks m → wNam X.K i Wo D m cl d t' G' → wpAny (model X.prog X.w) X.A (handleBy (.ref e) X.env ks) (SP X pins D) X.xe { z' with heap := h3 } := by
    intro ks m hk
    induction hk with
    | done =>
      intro w
      apply wpAny_handleBy_nil
      obtain ⟨k1, k2, k3, oe, vs, T, oT, ts', he, hz, hd, h1, hr⟩ := id fl3
      unfold PySem.passOn
      refine wpAny_bind (wpAny_field he hd h1 ?_)
      have nT : ¬ ((Value.ref T == Value.none) = true) := by simp
      rw [if_neg nT]
      have thrown : wpAny (model X.prog X.w) X.A (setFlight (.ref e) X.env.frame) (fun _ z4 => wpAny (model X.prog X.w) X.A (throw (.ref e) : Sem Flow) (SP X pins D) X.xe z4) X.xe { z' with heap := h3 } := by
        rw [fr]
        apply HandSPX.setFlight_upZ fl3
        intro h4 q4 up4
        exact wpAny_throw (tk _ _ ⟨e, B, zI, pins, t', G', cl, d, rfl, J, nb, (up.trans up3).trans up4, Or.inr (Or.inr (by rw [st]; exact q4)), ne, os, ag, w⟩)
      first
        | exact wpAny_bind (wpAny_pure (wpAny_bind thrown))
        | exact wpAny_bind thrown
    | @more y k tt s0 ss yp hp hs l2 nm su rest ih =>
      rintro ⟨b, eb, yes, no⟩
      refine wpAny_handleBy_cons (codeAny_handlers_test ?_) (fun q => nomatch q)
      have looks : PySem.W.Looks (model X.prog X.w) h3 (typeOf (.ref e)) cl := fun _ _ _ _ kp q => wpAny_typeOf_ref (kp _ _ at3) (by rw [zc3.1]; exact q)
      have match_ := PySem.W.exm_one (M := model X.prog X.w) J3.kIn looks eb
      have name_ : ∀ {Q : Value → Shared → Prop} {E : Value → Shared → Prop}, Q k { z' with heap := h3 } → wpAny (model X.prog X.w) (X.A.mark (some (.ref e))) (eval (.Name y yp) X.env) Q E { z' with heap := h3 } := fun {Q E} q => by
        rcases nm with ⟨gl, db, hm | ⟨hm, hv, hn⟩⟩
        · exact ld_glob (X := X.suite e ((e, o3) :: (X.pn ++ pins))) S3 gl hm q db
        · exact ld_blt (X := X.suite e ((e, o3) :: (X.pn ++ pins))) S3 gl hm hv q hn db
      refine name_ (match_.here ?_)
      rcases b with _ | _
      · exact ih (no rfl)
      apply codeAny_handlers_suite_as
      apply HandSPX.lands_againZ fl3
      intro h4 fl4 up4
      have J4 : Inv X pins t' G' { z' with heap := h4 } := J.landed nb fl4.1 ((up.trans up3).trans up4) os ag
      obtain ⟨o4, vs4, at4, zc4, dt4⟩ := fl4.there
      refine store_ok (X := X.suite e ((e, o4) :: (X.pn ++ pins))) (v := .ref e) (J4.suite at4 dt4 ne noL noF) nd hi isL rfl (fun z5 S5 => ?_) (Or.inr lc)
      refine wpAny_mono ((su e o4 cl d (X.pn ++ pins) zc4 ⟨_, dt4⟩).run [] z5 _ G' _ S5 (yes rfl e ne)) (fun fl z6 hz => ?_) fun _ _ q => q.elim
      have leave : ∀ {t6 : L2.St} {G6 : Hp} {Q : Shared → Prop}, Inv (X.suite e ((e, o4) :: (X.pn ++ pins))) [] t6 G6 z6 → (∀ z7, Inv X pins (t6.set i none) G6 z7 → Q z7) →
          wpAny (model X.prog X.w) X.A (do bindName X.env n .none; unbindBehindTheSuite X.env n hp) (fun _ z7 => Q z7) X.xe z6 := fun {t6 G6 Q} S6 q => gone_ok (S6.unsuite good) nd hi lc q
      rcases fl with _ | _ | _ | u
      all_goals first
        | (obtain ⟨t6, G6, S6, q6⟩ := hz; exact leave S6 fun z7 J7 => ⟨_, _, J7, q6⟩)
        | (obtain ⟨v6, t6, G6, S6, r6, q6⟩ := hz; exact leave S6 fun z7 J7 => ⟨_, _, _, J7, r6, q6⟩)
  exact all hh wish
end
end DL

namespace DL
open PySem PySem.Spec PyProof.Rows L2 LamX

/-- all tables of T tell, the drawn state may change them -/
structure ResT (T : List (Addr × Str)) (R : Res) : Prop where
  tab : ∀ G, R.I G → Tabs T G
  mem : ∀ p ∈ T, R.M p.1
  put : ∀ G G1 (P : Addr), (∃ p ∈ T, p.1 = P) → R.I G → Keep (fun a => a = P) G G1 → Tabs T G1 → R.I G1
theorem tabs_stay {T : List (Addr × Str)} {G G1 : Hp} (t : Tabs T G) (e : ∀ a o, (∀ xs, o ≠ HO.lst xs) → G a = some o → G1 a = some o) : Tabs T G1 := fun p hp => by
  obtain ⟨ps, h1, h2, h3⟩ := t p hp
  refine ⟨ps, e _ _ (fun xs z => nomatch z) h1, h2, fun pos cv hc => ?_⟩
  obtain ⟨c, e1, e2⟩ := h3 pos cv hc
  exact ⟨c, e1, e _ _ (fun xs z => by unfold CodeO at z; exact nomatch z) e2⟩
section
variable {X : Cx} {pins : List (Addr × Obj)} {σ : L2.St} {H : Hp} {s : Shared}
/-- the lambda stands: its code object is new or was in the table -/
theorem lam_made {T : List (Addr × Str)} {c P : Addr} {pa : Arguments} {bd : Expr} {sc : Scope} {pos : Pos} {E : Value → Shared → Prop} {Q : Value → Shared → Prop} (I : Inv X pins σ H s) (TB : TabB X.base X.mg c P) (ec : X.env.code = .ref c)
    (mT : (P, X.env.qual ++ "<lambda>") ∈ T) (uT : ∀ p ∈ T, p.1 = P → p.2 = X.env.qual ++ "<lambda>") (tabs : Tabs T H) (nodef : defaultsOf pa X.env = ([], [])) (fr : ∀ y ∈ sc.names, y.2 = .free → ∃ b, X.env.cells.lookup y.1 = some b)
    (go : ∀ (f c1 : Addr) (pm ct : Value) (G : Hp) (z : Shared), Inv X pins σ G z → Keep (fun a => a = P) H G → Tabs T G → z.heap.get? f = some (PySem.W.kla_obj "<lambda>" (X.env.qual ++ "<lambda>") pa bd sc (cloFrom X.env.cells sc.names []) pm c1 ct) →
      G f = none → f ∉ frs X.stack → G c1 = some (CodeO c1 (X.env.qual ++ "<lambda>")) → Q (.ref f) z) :
    wpAny (model X.prog X.w) X.A (eval (.Lambda pa bd sc pos) X.env) Q E s := by
  obtain ⟨ps, eP, trip, told⟩ := tabs _ mT
  apply PySem.W.kla_eval nodef
  have bP := TB.bm.keeps I.bk
  have aP : s.heap.get? P = some { cls := .none, data := .fields ps } := I.hok P _ eP
  have free_ : ∀ f, s.heap.objs.size ≤ f → f ∉ frs X.stack := fun f le z => (List.mem_cons.mp (I.stkSub _ z)).elim
    (fun e => absurd (Nat.lt_of_lt_of_le I.lt (e ▸ le)) (Nat.lt_irrefl _)) fun e => I.nofs le e
  rcases hc : codeAmong pos ps.toList with _ | cv
  · apply PySem.W.kla_makeFunction (mg := X.mg) (c := c) (P := P) (ps := ps) (closure_ok fr) I.ok.glob (I.mod.glob.keeps I.bk) ec (TB.code.keeps I.bk) aP trip hc TB.gP bP
    intro c1 ct h1 tk ext ge lt rec_ tb
    obtain ⟨c2, oc, vs, t, e2, hoc, hd, hv⟩ := rec_
    cases e2
    have le := Nat.le_trans ge (Nat.le_of_lt lt)
    have new1 : H c1 = none := I.hok.fresh ge
    have nPc : P ≠ c1 := ne_of_none eP new1
    have I2 := inv_table (t' := tk) (more := #[rawInt pos.line, rawInt pos.col, .ref c1]) (h' := h1.push (PySem.W.kla_obj "<lambda>" (X.env.qual ++ "<lambda>") pa bd sc (cloFrom X.env.cells sc.names []) ((X.mg "__name__").getD .none) c1 ct)) I eP
      (fun b o nb e => Heap.get?_push_of_some _ (ext b o nb e)) (Heap.get?_push_of_some _ tb) ge ⟨oc, vs, t, Heap.get?_push_of_some _ hoc, hd, hv⟩
    generalize hG : upd (upd H P (.tbl (ps ++ #[rawInt pos.line, rawInt pos.col, .ref c1]))) c1 (CodeO c1 (X.env.qual ++ "<lambda>")) = G at I2
    have at_ : ∀ a o, H a = some o → a ≠ P → G a = some o := fun a o e n => by rw [← hG, upd_ne (ne_of_none e new1), upd_ne n]; exact e
    have gP : G P = some (.tbl (ps ++ #[rawInt pos.line, rawInt pos.col, .ref c1])) := by rw [← hG, upd_ne nPc, upd_same]
    have gc : G c1 = some (CodeO c1 (X.env.qual ++ "<lambda>")) := by rw [← hG, upd_same]
    have notP : ∀ {a : Addr} {o : HO}, H a = some o → (∀ q, o ≠ .tbl q) → a ≠ P := fun {a o} e n z => n ps (Option.some.inj (e.symm.trans (by rw [z]; exact eP)))
    have K : Keep (fun a => a = P) H G := ⟨fun a o e n => at_ a o e n, fun a xs e => at_ a _ e (notP e fun q z => nomatch z), fun a o u e => at_ a _ e (notP e fun q z => nomatch z)⟩
    have code_ : ∀ {a : Addr} {w : Str}, H a = some (CodeO a w) → G a = some (CodeO a w) := fun {a w} e => at_ a _ e (notP e codeO_ne)
    refine go h1.objs.size c1 ((X.mg "__name__").getD .none) ct G _ I2 K (fun p hp => ?_) (Heap.get?_push_size _ rfl) ?_ (free_ _ le) gc
    · by_cases hb : p.1 = P
      · rw [uT p hp hb, hb]
        have eL : (ps ++ #[rawInt pos.line, rawInt pos.col, .ref c1]).toList = ps.toList ++ [rawInt pos.line, rawInt pos.col, .ref c1] := by simp
        refine ⟨_, gP, by rw [eL]; exact PySem.TriplesOk_snoc _ _ _ _ trip, fun pp cv q => ?_⟩
        rw [eL] at q
        rcases among_app _ trip q with z | z
        · obtain ⟨b, e1, e2⟩ := told pp cv z
          exact ⟨b, e1, code_ e2⟩
        · exact ⟨c1, z, gc⟩
      · obtain ⟨qs, a1, a2, a3⟩ := tabs p hp
        refine ⟨qs, at_ _ _ a1 hb, a2, fun pp cv q => ?_⟩
        obtain ⟨b, e1, e2⟩ := a3 pp cv q
        exact ⟨b, e1, code_ e2⟩
    · rw [← hG, upd_ne (Nat.ne_of_gt lt), upd_ne (Nat.ne_of_gt (Nat.lt_of_lt_of_le (Heap.lt_size aP) le))]
      exact I.hok.fresh le
  · obtain ⟨c1, e, known⟩ := told pos cv hc
    subst e
    apply PySem.W.kla_makeFunctionHit (mg := X.mg) (c := c) (P := P) (ps := ps) (closure_ok fr) I.ok.glob (I.mod.glob.keeps I.bk) ec (TB.code.keeps I.bk) aP trip hc bP
    intro ct h1 tk ext le
    exact go h1.objs.size c1 ((X.mg "__name__").getD .none) ct H _ (I.kept fun b o e => Heap.get?_push_of_some _ (ext b o e)) (Keep.refl H) tabs (Heap.get?_push_size _ rfl) (I.hok.fresh le) (free_ _ le) known
end
section
variable {X : Cx} {pins : List (Addr × Obj)} {σ : L2.St} {H : Hp} {s : Shared}
/-- the frame of the def at g, entered from X -/
abbrev inDef (X : Cx) (q : Str) (sg : Scope) (g : Addr) (cd : Value) (z : Shared) : Around := X.A.deeper (envOfC q sg z.heap.objs.size g cd)
abbrev defCx (X : Cx) (N : List Str) (q : Str) (sg : Scope) (g : Addr) (cd : Value) (z : Shared) (G : Hp) (E : XK) : Cx := cxOf CX0 X.prog X.w X.K X.mg X.base N q sg g cd X.A X.stack z G E
/-- the lambda's body keeps tb, wherever it is called from the def at g -/
def LamB (X : Cx) (q : Str) (sg : Scope) (g : Addr) (cd : Value) (z : Shared) (sc : Scope) (f c1 : Addr) (k : Nat) (bd : Expr) (E : XK) (tb : TE) : Prop :=
  ∀ (out : List Env) (y : Shared) (G : Hp), Rg k ((inDef X q sg g cd z).deeper (lamEnv X sc y.heap.objs.size f c1)) → PE (lamCx X (inDef X q sg g cd z) out y G E sc f c1) bd tb
/-- a(): the lambda is called -/
theorem pe_actG {N : List Str} {q : Str} {sg : Scope} {g f c1 : Addr} {cd pm ct : Value} {pa : Arguments} {bd : Expr} {sc : Scope} {k i : Nat} {a : Str} {pn : List (Addr × Obj)} {xe : Value → Shared → Prop} {W : L2.WX} {E1 : XK} {tb : XK → TE} {p1 p2 : Pos}
    (I : Inv X pins σ H s) (L : LamS X.env.scope sc) (at_ : s.heap.get? f = some (PySem.W.kla_obj "<lambda>" (X.env.qual ++ "<lambda>") pa bd sc (cloFrom X.env.cells sc.names []) pm c1 ct)) (nf : H f = none) (ns : f ∉ frs X.stack)
    (bnd : bindArgs (PySem.W.kla_fn "<lambda>" (X.env.qual ++ "<lambda>") pa bd sc (cloFrom X.env.cells sc.names []) pm (.ref c1) ct) ⟨[], []⟩ = pure [])
    (tk : Takes ((defCx X N q sg g cd s H E1).tr pn xe) W) (hr : Rg (k + 1) (inDef X q sg g cd s)) (body : ∀ E, LamB X q sg g cd s sc f c1 k bd E (tb E))
    (hN : N[i]? = some a) (hv : Vis sg a) (hd : (a == ("__debug__" : Str)) = false := by decide) (hcd : (a == ("__classdict__" : Str)) = false := by decide) :
    PE ((defCx X N q sg g cd s H E1).tr pn xe) (.Call (.Name a p1) [] [] p2) (fun t G Q => ∃ E : XK, (∀ cl d G', E cl d G' → W cl d t G') ∧ t[i]? = some (some (.ref f)) ∧ G c1 = some (CodeO c1 (X.env.qual ++ "<lambda>")) ∧ tb E σ G Q) := by
  constructor
  rintro pinsZ sZ σZ HZ Q IZ ⟨E, hW, slot, code, ht⟩
  have named := (pe_var (pos := p1) (i := i) hN hv hd hcd).run pinsZ sZ σZ HZ (fun v H1 => v = .ref f ∧ H1 = HZ) IZ ⟨.ref f, slot, rfl, rfl⟩
  refine wpAny_Call_Name_kw (thn named fun u s1 hh => ?_)
  obtain ⟨v, H1, I1, r1, ev, eH⟩ := hh
  subst ev eH
  obtain rfl : u = Value.ref f := r1
  have there := I1.base.keep f _ at_ nf ns (fun z => by cases (show f ∈ ([] : List Addr) from z))
  apply PySem.W.callWith_F0 ⟨_, _, _, _, there⟩
  have un : Un (frs X.stack) [] H H1 s.heap s1.heap := I1.base
  obtain ⟨oc, vs, t, hoc, hdc, hvc⟩ := (I1.hok c1 _ code).1
  have runs : codeAny (model X.prog X.w) (inDef X q sg g cd s) (.call (.ref f) ⟨[], []⟩) (CR (L2.CX X.prog X.w) (envOfC q sg s.heap.objs.size g cd :: X.stack) X.prog X.w H1 s1 Q E) s1 := by
    apply PySem.W.kla_callFunE hr.room.depth there rfl L.co L.gen rfl ⟨c1, oc, vs, t, rfl, hoc, hdc, hvc⟩
    rw [bnd]
    apply wpAny_pure
    refine wpAny_newFunctionEnv (fun y hy => (L.own y hy).2) (fun y hy => nomatch hy) (fun h₁ hns hsb => ⟨I1.nolimit.fresh _ hsb, ?_⟩) L.kind
    show codeAny _ _ (.expr bd (lamEnv X sc s1.heap.objs.size f c1)) _ _
    have J := lam_start2 (tk := s1.toks + ([] : List (Str × Value)).length) I L I1.env0 (E := E) (f := f) (c' := c1) (h₁ := h₁) hr.room.hd un hns fun b o e => hsb.extBut b o (Nat.ne_of_lt (Heap.lt_size e)) (Heap.get?_push_of_some _ e)
    have run1 := (body E (envOfC q sg s.heap.objs.size g cd :: X.stack) s1 H1 (hr.deeper _)).run [] _ _ H1 Q J ht
    exact PySem.W.kla_codeExpr (wpAny_mono run1 (fun v s' hq => by
      obtain ⟨w', H', J', rv, q⟩ := hq
      exact ⟨w', H', J'.os, J'.bare, J'.base, J'.hok, rv, q⟩) fun _ _ z => z)
  refine wpAny_call (codeAny_mono runs fun r s' hq => ?_)
  rcases r with e | fl
  · exact tk e s' (XE.of_call I1 (fun cl d G z => hW cl d G z) hq)
  · cases fl <;> first | exact I1.after hq | exact False.elim hq
end
/-- what the def makes of the lambda that it gets: TT -/
def GivesG (X : Cx) (N : List Str) (q : Str) (sg : Scope) (g : Addr) (cd : Value) (bg : List Stmt) (a lq : Str) (k : Nat) (TT : (XK → Hp → VK → Prop) → Hp → VK → Prop) : Prop :=
  ∀ (f c1 : Addr) (z : Shared) (G : Hp) (Q : VK) (tl : XK → Hp → VK → Prop), Rg (k + 1) (inDef X q sg g cd z) →
    (∀ (W : L2.WX) (pn : List (Addr × Obj)) (xe : Value → Shared → Prop) (p1 p2 : Pos), Takes ((defCx X N q sg g cd z G E0).tr pn xe) W →
      PE ((defCx X N q sg g cd z G E0).tr pn xe) (.Call (.Name a p1) [] [] p2) (fun t' G' Q' => ∃ E : XK, (∀ cl d G2, E cl d G2 → W cl d t' G2) ∧ t'[0]? = some (some (.ref f)) ∧ G' c1 = some (CodeO c1 lq) ∧ tl E G' Q')) →
    G c1 = some (CodeO c1 lq) → TT tl G Q → ∃ t, PSs (defCx X N q sg g cd z G E0).nox bg t ∧ t { nx := fun _ G' => Q .non G', rt := Q } (start N [.ref f]) G
section
variable {X : Cx}
/-- x(lambda: bd) -/
theorem pe_lamG {T : List (Addr × Str)} {TT : (XK → Hp → VK → Prop) → Hp → VK → Prop} {x a : Str} {g c P : Addr} {k : Nat} {st : Stmt} {fd : FuncData} {N : List Str} {pa : Arguments} {bd : Expr} {sc : Scope} {t : XK → TE} {p lp pos : Pos}
    (hg : Gl X x) (hm : X.mg x = some (.ref g)) (Fn : Fun X.K x x st g fd) (hb : Binds X.K fd [a] []) (Sg : FnScope N [a] (defScope st)) (hN : N[0]? = some a) (hv : Vis (defScope st) a)
    (gives : ∀ cd, GivesG X N x (defScope st) g cd (defBody st) a (X.env.qual ++ "<lambda>") k TT)
    (TB : TabB X.base X.mg c P) (ec : X.env.code = .ref c) (mT : (P, X.env.qual ++ "<lambda>") ∈ T) (uT : ∀ p ∈ T, p.1 = P → p.2 = X.env.qual ++ "<lambda>") (hr : Rg (k + 2) X.A) (L : LamS X.env.scope sc) (nodef : defaultsOf pa X.env = ([], []))
    (bnd : ∀ (q : Str) (cl : List (Str × Addr)) (pm cv ct : Value), bindArgs (PySem.W.kla_fn "<lambda>" q pa bd sc cl pm cv ct) ⟨[], []⟩ = pure [])
    (body : ∀ (cd : Value) (z : Shared) (f c1 : Addr) (E : XK), LamB X x (defScope st) g cd z sc f c1 k bd E (t E))
    (hdb : (x == ("__debug__" : Str)) = false := by decide) (hd : (a == ("__debug__" : Str)) = false := by decide) (hcd : (a == ("__classdict__" : Str)) = false := by decide) :
    PE X (.Call (.Name x p) [.Lambda pa bd sc lp] [] pos) (fun σ H Q => Tabs T H ∧ ∀ G, Keep (fun a => a = P) H G → Tabs T G → TT (fun E G' Q' => t E σ G' Q') G Q) := by
  constructor
  rintro pins s σ H Q I ⟨tabs, h⟩
  obtain ⟨oc, od, kV, doc, pm0, an, cd, ct0, osl, rfl, lk, hcg⟩ := Fn.ex
  refine wpAny_Call_Name_kw (ld_glob I hg hm ?_ hdb)
  apply PySem.W.callWith_K (h₀ := X.base) I.ok.mod.kin Fn.kp ?_ (by rfl) (by rfl)
  show wpAny _ _ (spliced ((false, eval (.Lambda pa bd sc lp) X.env) :: backTo pos (starEach [] X.env))) _ _ s
  refine Calls.spliced_cons (lam_made I TB ec mT uT tabs nodef (L.has I.ok) fun f c1 pm ct G z I1 K T1 at_ nf ns code => Calls.spliced_nil ⟨I1.kIn, ?_⟩)
  have runs : codeAny (model X.prog X.w) X.A (.call (.ref g) ⟨[.ref f], []⟩) (CR CX0 X.stack X.prog X.w G z Q E0) z := by
    refine run_ofS (N := N) (ps := [a]) (us := [.ref f]) (vs := [.ref f]) lk hcg Sg hr.room I1.env0 (hb z [.ref f] I1.kIn rfl) (.cons rfl .nil) rfl fun _ => ?_
    have hr' : Rg (k + 1) (inDef X x (defScope st) g cd z) := hr.deeper _
    obtain ⟨t', ht, hq⟩ := gives cd f c1 z G Q (fun E G' Q' => t E σ G' Q') hr' (fun W pn xe p1 p2 tk => pe_actG (i := 0) I1 L at_ nf ns (bnd _ _ _ _ _) tk hr' (body cd z f c1) hN hv hd hcd) code (h G K T1)
    exact ⟨t', ht.nox, hq⟩
  refine wpAny_call (codeAny_mono runs fun r s2 hq => ?_)
  rcases r with e | fl
  · exact (show False from hq).elim
  · cases fl <;> first | exact I1.after hq | exact False.elim hq
end
end DL

namespace DL
open PySem PySem.Spec PyProof.Rows L2 LamX

abbrev WXE := Ev → (PyData → Prop) → (Str → PyData → Prop) → Prop
/-- the classes of errors: where, and the attribute -/
abbrev Errs := Str → Option (Addr × Str)
def upErr (G : Gx) (er : Errs) (wx : WXE) (E : XK) : TE := fun σ H Q => ∃ (an : List (PyData × V)) (O : Nat → Option Addr) (ρ : Ev) (Φ : PyData → Prop) (Ψ : Str → PyData → Prop), Sta G an O σ H ρ ∧ wx ρ Φ Ψ ∧
  (∀ v H' d, Φ d → Im G.W (Nn G O true) H' d v → Keep G.R.M H H' → G.R.I H' → Q v H') ∧
  ∀ x C fld v H' d dd, er x = some (C, fld) → Ψ x d → Im G.W (Nn G O true) H' d v → Keep G.R.M H H' → G.R.I H' → H' dd = some (.xd [(fld, v)]) → E (.ref C) (some dd) H'
def wGE (cx : Str) (F : FX) (n m : Nat) (idx : List Nat) (wr wk : WA) : WXE := fun ρ Φ Ψ => wr ρ fun xs => wk ρ fun ys => xs.length = n ∧ ys.length = m ∧ F (perm idx (xs ++ ys)) Φ (Ψ cx)
section
variable {X : Cx} {G : Gx} {pos p : Pos} {e : Expr} {es : List Expr} {wr wk : WA} {kws : List Keyword} {x fld cx : Str} {k n j : Nat} {C : Addr} {ps ks : List Str} {F : FX} {idx : List Nat} {st : Stmt} {er : Errs}
theorem up_Err {m : Nat} {E : XK} (hp : (perm idx (List.range (n + m))).length = ps.length) (hc : er cx = some (C, fld)) (σ : L2.St) (H : Hp) (Q : VK) (h : upErr G er (wGE cx F n m idx wr wk) E σ H Q) : tG (spX G.W C fld ps.length F) n m idx E (upA G true wr) (upA G true wk) σ H Q := by
  obtain ⟨an, O, ρ, Φ, Ψ, S, h, q, qe⟩ := h
  refine ⟨an, O, ρ, _, S, h, fun vs H1 ds h1 im k1 i1 => ?_⟩
  have S1 := S.keep k1 i1
  refine ⟨an, O, ρ, _, S1, h1, fun zs H2 es h2 im2 k2 i2 => ?_⟩
  have S2 := S1.keep k2 i2
  obtain ⟨l1, l2, hF⟩ := h2
  have ia := ImA.append (S1.ima k2 im) im2
  have lp : (perm idx (vs ++ zs)).length = ps.length := by
    rw [perm_len, List.length_append, ImA.length im, ImA.length im2, l1, l2]
    exact hp
  have kk : ∀ {H3}, Keep (fun _ => False) H2 H3 → Keep G.R.M H H3 ∧ G.R.I H3 := fun {H3} k3 => ⟨(k1.trans k2).trans (k3.mono fun a z => z.elim), G.R.st _ _ i2 fun a o _ e => k3.ob a o e id⟩
  exact ⟨(ImA.length im).trans l1, (ImA.length im2).trans l2, Nn G O true, _, Φ, _, lp, fun a z => S2.there (nn_v z), ImA.perm ia idx, hF, fun v H3 d hd im3 k3 => q v H3 d hd im3 (kk k3).1 (kk k3).2,
    fun v H3 d dd hd im3 k3 e => qe cx C fld v H3 d dd hc hd im3 (kk k3).1 (kk k3).2 e⟩
/-- a call that may raise, where the error is wished for -/
theorem de_callE {E : XK} (tk : Takes X fun cl d _ H => E cl d H) (hc : er cx = some (C, fld)) (Cl : CalX X.prog X.w G.W.K X.mg X.base k x st ps (spX G.W C fld ps.length F)) (hK : X.K = G.W.K) (hr : Rg j X.A) (hb : KbS x st ps [] n idx) (hkj : k ≤ j) (hg : Gl X x) (ha : PA X (e :: es) (upA G true wr)) (hp : (perm idx (List.range (n + 0))).length = ps.length := by rfl)
    (hdb : (x == ("__debug__" : Str)) = false := by decide) (he : starEach (e :: es) X.env = (false, eval e X.env) :: starEach es X.env := by rfl) (hpl : (backTo pos (starEach es X.env)).any (·.1) = false := by rfl) :
    PE X (.Call (.Name x p) (e :: es) [] pos) (upErr G er (wGE cx F n 0 idx wr wNil) E) := by
  obtain ⟨f, fd, Fn, hm, Fg⟩ := Cl.ex
  rw [← hK] at Fn Fg
  refine pe_weak (pe_callGP (E := E) Fg (hr.mono hkj) (Kb.of Fn hb) (passes_call tk fun _ _ _ _ z => z) hg hm Fn.kp ha hdb he hpl) fun σ H Q h => ?_
  obtain ⟨an, O, ρ, Φ, S, h, q⟩ := up_Err (E := E) hp hc σ H Q h
  refine ⟨an, O, ρ, _, S, h, fun vs H1 ds h1 im k1 i1 => ?_⟩
  obtain ⟨an2, O2, ρ2, Φ2, S2, h2, q2⟩ := q vs H1 ds h1 im k1 i1
  exact q2 [] H1 [] h2 rfl (Keep.refl _) S2.inv
/-- return e, where e may raise what the def may raise -/
def wRetE (cx : Str) (Ψ : PyData → Prop) (wx : WXE) : WS := fun W ρ => wx ρ W.rt fun y d => y = cx ∧ Ψ d
theorem ds_retE {E : XK} {Ψ : PyData → Prop} {wx : WXE} (hc : er cx = some (C, fld)) (h : PE X e (upErr G er wx E))
    (hE : ∀ v H' d dd, Ψ d → Im G.W G.A H' d v → Keep G.R.M G.H0 H' → H' dd = some (.xd [(fld, v)]) → E (.ref C) (some dd) H') : PS X (.Return (some e) pos) (upS G (wRetE cx Ψ wx)) :=
  ps_weak (ps_ret h) fun D σ H ⟨an, O, ρ, W, S, hw, n, r, b, c⟩ => by
    refine ⟨an, O, ρ, W.rt, _, S, hw, fun v H' d hd im k i => r v H' d hd (Im.avoid (fun a o _ z => nn_a z) d v im) (S.kp.trans k) i, fun y C' fld' v H' d dd e1 ⟨e2, hd⟩ im k i e => ?_⟩
    subst e2
    rw [hc] at e1
    cases e1
    exact hE v H' d dd hd (Im.avoid (fun a o _ z => nn_a z) d v im) (S.kp.trans k) e
end
end DL

namespace DL
open PySem PySem.Spec PyProof.Rows L2 LamX

/-- what is told: of an error of the class y the pair (tag, its word); else nothing, or the pair (ok, the value) -/
def wThunk (ok : Option Str) (tags : List (Str × Str)) (wx : WXE) : WE := fun ρ Φ => wx ρ (fun d => match ok with | none => Φ .none | some t => Φ (.tuple [.str t, d])) fun y d => ∃ tag, tags.lookup y = some tag ∧ Φ (.tuple [.str tag, d])
def TTk (er : Errs) (ok : Option Str) (tags : List (Str × Str)) : (XK → Hp → VK → Prop) → Hp → VK → Prop := fun tl G Q =>
  tl (fun cl d G1 => ∃ y tag C fld dd v, tags.lookup y = some tag ∧ er y = some (C, fld) ∧ cl = .ref C ∧ d = some dd ∧ G1 dd = some (.xd [(fld, v)]) ∧ ∀ p, G1 p = none → Q (.ref p) (upd G1 p (.tup [.str tag, v]))) G
    fun v G1 => match ok with | none => Q .non G1 | some t => ∀ p, G1 p = none → Q (.ref p) (upd G1 p (.tup [.str t, v]))
section
variable {X : Cx} {G : Gx} {T : List (Addr × Str)} {x a : Str} {g c P : Addr} {k : Nat} {st : Stmt} {fd : FuncData} {N : List Str} {pa : Arguments} {bd : Expr} {sc : Scope} {wx : WXE} {p lp pos : Pos} {er : Errs} {ok : Option Str} {tags : List (Str × Str)} {s : Bool}
theorem de_thunk (RT : ResT T G.R) (hg : Gl X x) (hm : X.mg x = some (.ref g)) (Fn : Fun X.K x x st g fd) (hb : Binds X.K fd [a] []) (Sg : FnScope N [a] (defScope st)) (hN : N[0]? = some a) (hv : Vis (defScope st) a)
    (gives : ∀ cd, GivesG X N x (defScope st) g cd (defBody st) a (X.env.qual ++ "<lambda>") k (TTk er ok tags))
    (TB : TabB X.base X.mg c P) (ec : X.env.code = .ref c) (mT : (P, X.env.qual ++ "<lambda>") ∈ T) (uT : ∀ p ∈ T, p.1 = P → p.2 = X.env.qual ++ "<lambda>") (hr : Rg (k + 2) X.A) (L : LamS X.env.scope sc) (nodef : defaultsOf pa X.env = ([], []))
    (bnd : ∀ (q : Str) (cl : List (Str × Addr)) (pm cv ct : Value), bindArgs (PySem.W.kla_fn "<lambda>" q pa bd sc cl pm cv ct) ⟨[], []⟩ = pure [])
    (body : ∀ (cd : Value) (z : Shared) (f c1 : Addr) (E : XK), LamB X x (defScope st) g cd z sc f c1 k bd E (upErr G er wx E))
    (hdb : (x == ("__debug__" : Str)) = false := by decide) (hd : (a == ("__debug__" : Str)) = false := by decide) (hcd : (a == ("__classdict__" : Str)) = false := by decide) :
    PE X (.Call (.Name x p) [.Lambda pa bd sc lp] [] pos) (up G s (wThunk ok tags wx)) :=
  pe_weak (pe_lamG hg hm Fn hb Sg hN hv gives TB ec mT uT hr L nodef bnd body hdb hd hcd) fun σ H Q ⟨an, O, ρ, Φ, S, h, q⟩ => by
    refine ⟨RT.tab H S.inv, fun H1 k1 t1 => ?_⟩
    have kR : Keep G.R.M H H1 := k1.mono fun b e => by
      have e : b = P := e
      rw [e]
      exact RT.mem _ mT
    have i1 : G.R.I H1 := RT.put H H1 P ⟨_, mT, rfl⟩ S.inv k1 t1
    have S1 := S.keep kR i1
    have tp : ∀ {t : Str} {v : V} {d : PyData} {H2 : Hp} {p : Addr}, Im G.W (Nn G O true) H2 d v → Sta G an O σ H2 ρ → H2 p = none → Im G.W (Nn G O s) (upd H2 p (.tup [.str t, v])) (.tuple [.str t, d]) (.ref p) := fun {t v d H2 p} im S2 hp => by
      have im' : Im G.W (Nn G O s) H2 d v := Im.avoid (fun a o _ z => nn_v z) d v im
      exact S2.tup hp (s := s) (ds := [.str t, d]) (vs := [.str t, v]) ⟨.str t, [v], rfl, rfl, v, [], rfl, im', rfl⟩
    refine ⟨an, O, ρ, _, _, S1, h, fun v H2 d hd im k2 i2 => ?_, fun y C fld v H2 d dd e1 hd im k2 i2 e2 => ?_⟩
    · cases ok with
      | none => exact q .non H2 .none hd rfl (kR.trans k2) i2
      | some t =>
        have S2 := S1.keep k2 i2
        exact fun p hp => q _ _ _ hd (tp im S2 hp) ((kR.trans k2).trans (Keep.new hp)) (S2.newI hp)
    · obtain ⟨tag, e3, hΦ⟩ := hd
      have S2 := S1.keep k2 i2
      exact ⟨y, tag, C, fld, dd, v, e3, e1, rfl, rfl, e2, fun p hp => q _ _ _ hΦ (tp im S2 hp) ((kR.trans k2).trans (Keep.new hp)) (S2.newI hp)⟩
end
end DL

namespace DL
open PySem PySem.Spec PyProof.Rows L2 LamX

/-- the law's promise: the tables are empty when it begins -/
def spLawT (K : PySem.W.Frag) (n : Nat) (cs : List (Addr × Addr)) : Sp := fun vs H Q _ => ∃ (a : Addr) (ns : List Int), vs = [.ref a] ∧ SqS K H a (ns.map V.int) ∧ ns.length ≤ n ∧ (∀ q ∈ cs, H q.2 = some (.tbl #[])) ∧ ∀ H', Q (.bl true) H'
structure TabsIn (K : PySem.W.Frag) (h : Heap) (cs : List (Addr × Addr)) : Prop where
  emp : ∀ q ∈ cs, h.get? q.2 = some { cls := .none, data := .fields #[] }
  out : ∀ q ∈ cs, K.lookup q.2 = none
  code : ∀ q ∈ cs, PySem.W.CodeHd h q.1 q.2
theorem TabsIn.at {K : PySem.W.Frag} {h : Heap} {cs : List (Addr × Addr)} (T : TabsIn K h cs) {b : Addr} (hb : b ∈ cs.map (·.2)) : h.get? b = some { cls := .none, data := .fields #[] } ∧ K.lookup b = none ∧ isCodeTable h b := by
  obtain ⟨q, hq, rfl⟩ := List.mem_map.mp hb
  exact ⟨T.emp q hq, T.out q hq, ((T.code q hq).tab (T.emp q hq)).isCodeTable⟩
theorem law_goesT {P : Program} {w : World} {K : PySem.W.Frag} {mg mb : Str → Option Value} {k m : Nat} {g p : Addr} {cs : List (Addr × Addr)} {fd : FuncData} {y : Str} {t : Shared} {us : List Value} {is : List Int}
    (inK : K.In t.heap) (gl : t.heap.Ns mainGlobals mg) (bl : t.heap.Ns builtinsNs mb) (bo : ∀ x : Str, x ≠ "__name__" → mb x = bootBuiltins x) (nl : t.heap.NoLimit) (ge : t.gens = #[]) (T : TabsIn K t.heap cs)
    (bmod : ∃ (bm : Addr) (ob : Obj), mg "__builtins__" = some (.ref bm) ∧ bm ≠ builtinsNs ∧ t.heap.get? bm = some ob ∧ ob.cls = .type "module" ∧ ob.dict = some builtinsNs ∧ ob.data = .plain)
    (at_ : t.heap.get? p = some { cls := .type "list", data := .seq us.toArray }) (ai : IntsAre us is) (le : is.length ≤ sizeLine) (lm : is.length ≤ m) (rg : Rg k callerA)
    (F : ∀ base : Heap, K.In base → base.Ns mainGlobals mg → (∀ q ∈ cs, TabB base mg q.1 q.2) → FnG P w K mg base CX0 k g fd [y] (spLawT K m cs)) (bi : ∀ (s : Shared) (u : Value), BindsTo s fd ⟨[u], []⟩ [(y, u)])
    (H : Hp) (tabH : ∀ q ∈ cs, H q.2 = some (.tbl #[])) (only : ∀ b, H b = none ∨ b ∈ cs.map (·.2) ∨ ∃ o xs, H b = some (.frz o (.lst xs))) (sq : SqS K H p (is.map V.int)) (ok : HOk P w H t.heap) (one : ∀ b, H b ≠ none → b = p ∨ b ∈ cs.map (·.2)) (mine : H p ≠ none → K.lookup p = none) :
    codeAny (model P w) callerA (.call (.ref g) ⟨[.ref p], []⟩) (fun r t' => r = .ok (.ret (.bool true)) ∧ OldK t.heap t'.heap ∧ t'.os = t.os ∧ AllBare t'.gens) t := by
  -- an object that is neither a list nor a table is no object of H
  have apart : ∀ {b : Addr} {o : Obj}, t.heap.get? b = some o → (∀ vs n, o.data ≠ .seq vs n) → o.data ≠ .fields #[] → (hidT t.heap H).get? b = some o := fun {b o} e n1 n2 => by
    refine hidT_get e ?_
    cases q : H b with
    | none => rfl
    | some v =>
      rcases one b (by rw [q]; simp) with z | z
      · rw [z, at_] at e
        exact (n1 us.toArray _ (by injection e with e; rw [← e])).elim
      · rw [(T.at z).1] at e
        exact (n2 (by injection e with e; rw [← e])).elim
  have names : ∀ {b : Addr} {f : Str → Option Value}, t.heap.Ns b f → (hidT t.heap H).Ns b f := fun {b f} ⟨o, es, ep, e1, e2, e3⟩ =>
    ⟨o, es, ep, apart e1 (fun vs n z => nomatch (e2.symm.trans z)) (fun z => nomatch (e2.symm.trans z)), e2, e3⟩
  have inB : K.In (hidT t.heap H) := fun b o e => hidT_get (inK b o e) (by
    cases q : H b with
    | none => rfl
    | some v =>
      rcases one b (by rw [q]; simp) with z | z
      · rw [z] at e q
        exact nomatch (mine (by rw [q]; simp)).symm.trans e
      · exact nomatch (T.at z).2.1.symm.trans e)
  have md : Mod K mg (hidT t.heap H) := ⟨inB, names gl, ⟨mb, names bl, bo⟩, by obtain ⟨mc, l1, l2⟩ := nl; exact ⟨mc, names l1, l2⟩⟩
  have main_ : ∀ {b : Addr}, b ∈ cs.map (·.2) → mainGlobals ≠ b := fun {b} hb z => by
    obtain ⟨o, es, ep, e1, e2, _⟩ := gl
    rw [z, (T.at hb).1] at e1
    injection e1 with e1
    rw [← e1] at e2
    cases e2
  have tabB : ∀ q ∈ cs, TabB (hidT t.heap H) mg q.1 q.2 := fun q hq => by
    refine ⟨?_, ?_, main_ (List.mem_map.mpr ⟨q, hq, rfl⟩)⟩
    · obtain ⟨o, vs, file, tf, flags, tg, inF, text, tt, e1, e2, e3, e4, rest⟩ := T.code q hq
      refine ⟨o, vs, file, tf, flags, tg, inF, text, tt, apart e1 (fun ws n z => nomatch (e3.symm.trans z)) (fun z => ?_), e2, e3, e4, rest⟩
      rw [e3] at z
      injection z with z
      rw [z] at e4
      cases e4
    · obtain ⟨bm, ob, b1, b2, b3, b4, b5, b6⟩ := bmod
      refine ⟨bm, ob, b1, b2, fun z => ?_, fun z => ?_, apart b3 (fun ws n z => nomatch (b6.symm.trans z)) (fun z => nomatch (b6.symm.trans z)), b4, b5, b6⟩
      · obtain ⟨o, es, ep, e1, e2, _⟩ := gl
        rw [z, e1] at b3
        injection b3 with b3
        rw [← b3, e2] at b6
        cases b6
      · rw [z, T.emp q hq] at b3
        injection b3 with b3
        rw [← b3] at b6
        cases b6
  have start : Env0 P w K mg (hidT t.heap H) callerA [] t H := ⟨rfl, md, fun b o e => of_hidT e, Nat.le_of_eq (hidT_size _ _), trivial, fun b hb => (by have z : b ∈ ([] : List Addr) := hb; cases z), ok, .of_eq ge⟩
  have said : spLawT K m cs [.ref p] H (fun v _ => v = .bl true) (fun _ _ _ => False) := ⟨p, is, rfl, sq, lm, tabH, fun _ => rfl⟩
  refine codeAny_mono ((F _ inB (names gl) tabB).goes callerA [] t H ⟨[.ref p], []⟩ [.ref p] [.ref p] _ _ rg start (bi t (.ref p)) (.cons rfl .nil) said) fun res t' h => ?_
  match res, h with
  | .error e, h => exact False.elim h
  | .ok .next, h => exact False.elim h
  | .ok .brk, h => exact False.elim h
  | .ok .cont, h => exact False.elim h
  | .ok (.ret v), h =>
    obtain ⟨x, H2, hos, hbare, un, ok2, rel, isT⟩ := h
    obtain rfl : x = .bl true := isT
    obtain rfl : v = Value.bool true := rel
    have others : ∀ b o, b ∉ cs.map (·.2) → t.heap.get? b = some o → t'.heap.get? b = some o := fun b o nb e => by
      rcases only b with q | q | ⟨ob, xs, q⟩
      · exact un.keep b o e q (by intro z; cases z) (by simp)
      · exact (nb q).elim
      · have q2 := un.frzs b ob _ q
        obtain ⟨e1, _⟩ := ok b _ q
        obtain ⟨e2, _⟩ := ok2 b _ q2
        rw [e1] at e
        injection e with e
        rw [← e]
        exact e2
    have more_ : ∀ b, b ∈ cs.map (·.2) → ∃ more : Array Value, t'.heap.get? b = some { cls := .none, data := .fields more } := fun b hb => by
      obtain ⟨q, hq, rfl⟩ := List.mem_map.mp hb
      obtain ⟨more, z⟩ := un.tbls q.2 #[] (tabH q hq)
      exact ⟨_, ok2 q.2 _ z⟩
    refine ⟨rfl, ⟨fun b o e => ?_, fun b o e => ?_⟩, hos, hbare⟩
    · by_cases hb : b ∈ cs.map (·.2)
      · obtain ⟨more, hm⟩ := more_ b hb
        obtain ⟨e1, _, e3⟩ := T.at hb
        rw [e1] at e
        injection e with e
        subst e
        exact .inr (.inl ⟨e3, rfl, #[], more, rfl, by rw [Array.empty_append]; exact hm⟩)
      · exact .inl (others b o hb e)
    · by_cases hb : b ∈ cs.map (·.2)
      · obtain ⟨more, hm⟩ := more_ b hb
        exact ⟨_, hm⟩
      · exact ⟨o, others b o hb e⟩
theorem law_trueT {P : Program} {w : World} {K : PySem.W.Frag} {mg mb : Str → Option Value} {k m : Nat} {g p : Addr} {cs : List (Addr × Addr)} {fd : FuncData} {y : Str} {t : Shared} {us : List Value} {is : List Int}
    (inK : K.In t.heap) (gl : t.heap.Ns mainGlobals mg) (bl : t.heap.Ns builtinsNs mb) (bo : ∀ x : Str, x ≠ "__name__" → mb x = bootBuiltins x) (nl : t.heap.NoLimit) (ge : t.gens = #[]) (T : TabsIn K t.heap cs)
    (bmod : ∃ (bm : Addr) (ob : Obj), mg "__builtins__" = some (.ref bm) ∧ bm ≠ builtinsNs ∧ t.heap.get? bm = some ob ∧ ob.cls = .type "module" ∧ ob.dict = some builtinsNs ∧ ob.data = .plain)
    (at_ : t.heap.get? p = some { cls := .type "list", data := .seq us.toArray }) (ai : IntsAre us is) (le : is.length ≤ sizeLine) (lm : is.length ≤ m) (rg : Rg k callerA)
    (F : ∀ base : Heap, K.In base → base.Ns mainGlobals mg → (∀ q ∈ cs, TabB base mg q.1 q.2) → FnG P w K mg base CX0 k g fd [y] (spLawT K m cs)) (bi : ∀ (s : Shared) (u : Value), BindsTo s fd ⟨[u], []⟩ [(y, u)]) :
    codeAny (model P w) callerA (.call (.ref g) ⟨[.ref p], []⟩) (fun r t' => r = .ok (.ret (.bool true)) ∧ OldK t.heap t'.heap ∧ t'.os = t.os ∧ AllBare t'.gens) t := by
  have vals := vals_ints ai
  have len := ai.length
  have np : p ∉ cs.map (·.2) := fun z => by
    have e := (T.at z).1
    rw [at_] at e
    injection e with e
    injection e with e1 e2 e3 e4
    cases e3
  have memT : ∀ q ∈ cs, q.2 ∈ cs.map (·.2) := fun q hq => List.mem_map.mpr ⟨q, hq, rfl⟩
  let tb : Hp := fun b => if b ∈ cs.map (·.2) then some (HO.tbl #[]) else none
  have tbY : ∀ {b : Addr}, b ∈ cs.map (·.2) → tb b = some (HO.tbl #[]) := fun hb => if_pos hb
  have tbN : ∀ {b : Addr}, b ∉ cs.map (·.2) → tb b = none := fun hb => if_neg hb
  by_cases hk : ∃ o, K.lookup p = some o
  · obtain ⟨o, hk⟩ := hk
    have e := inK p o hk
    rw [at_] at e
    injection e with e
    subst e
    refine law_goesT inK gl bl bo nl ge T bmod at_ ai le lm rg F bi tb (fun q hq => tbY (memT q hq)) (fun b => ?_) (.inr ⟨_, us.toArray, _, hk, rfl, rfl, rfl, by rw [List.size_toArray, len]; exact le, vals⟩) (fun b u z => ?_) (fun b z => ?_) fun z => (z (tbN np)).elim
    · by_cases hb : b ∈ cs.map (·.2)
      · exact .inr (.inl hb)
      · exact .inl (tbN hb)
    · by_cases hb : b ∈ cs.map (·.2)
      · have z := (tbY hb).symm.trans z
        injection z with z
        subst z
        exact (T.at hb).1
      · exact nomatch (tbN hb).symm.trans z
    · by_cases hb : b ∈ cs.map (·.2)
      · exact .inr hb
      · exact absurd (tbN hb) z
  · have hn : K.lookup p = none := by
      cases q : K.lookup p with
      | none => rfl
      | some o => exact absurd ⟨o, q⟩ hk
    let hp : Hp := fun b => if b = p then some (HO.frz { cls := .type "list", data := .seq us.toArray } (.lst (is.map V.int))) else tb b
    have hpY : hp p = some (HO.frz { cls := .type "list", data := .seq us.toArray } (.lst (is.map V.int))) := if_pos rfl
    have hpN : ∀ {b : Addr}, b ≠ p → hp b = tb b := fun hb => if_neg hb
    have neP : ∀ {b : Addr}, b ∈ cs.map (·.2) → b ≠ p := fun hb z => np (z ▸ hb)
    refine law_goesT inK gl bl bo nl ge T bmod at_ ai le lm rg F bi hp (fun q hq => (hpN (neP (memT q hq))).trans (tbY (memT q hq))) (fun b => ?_) (.inl ⟨_, hpY⟩) (fun b u z => ?_) (fun b z => ?_) fun _ => hn
    · by_cases e : b = p
      · subst e
        exact .inr (.inr ⟨_, _, hpY⟩)
      · by_cases hb : b ∈ cs.map (·.2)
        · exact .inr (.inl hb)
        · exact .inl ((hpN e).trans (tbN hb))
    · by_cases e : b = p
      · subst e
        have z := hpY.symm.trans z
        injection z with z
        subst z
        exact ⟨at_, by rw [List.length_map]; exact le, us, _, vals, at_⟩
      · by_cases hb : b ∈ cs.map (·.2)
        · have z := ((hpN e).trans (tbY hb)).symm.trans z
          injection z with z
          subst z
          exact (T.at hb).1
        · exact nomatch ((hpN e).trans (tbN hb)).symm.trans z
    · by_cases e : b = p
      · exact .inl e
      · by_cases hb : b ∈ cs.map (·.2)
        · exact .inr hb
        · exact absurd ((hpN e).trans (tbN hb)) z
/-- what the head leaves -/
theorem walk_T {l : PySem.W.OpenLaw} {n k : Nat} {q : Program} {loose : List Str} {XP : (Str → Option Value) → Heap → Prop} {YP : World → Heap → Prop} {d : DefRec} {K : Params → PySem.W.Frag} {x : Str}
    (hn : l.most = some n) (hn2 : n ≤ sizeLine) (hdf : d.params.defaults = []) (rg : Rg k callerA) (hY : ∀ (w : World) (h : Heap), YP w h → (K w.params).In h)
    (F : ∀ (w : World) (mg : Str → Option Value) (g : Addr) (h : Heap), YP w h → (K w.params).In h → h.Ns mainGlobals mg → mg d.name = some (.ref g) →
      ∃ (fd : FuncData) (cs : List (Addr × Addr)), TabsIn (K w.params) h cs ∧ (∀ (s : Shared) (u : Value), BindsTo s fd ⟨[u], []⟩ [(x, u)]) ∧
        ∀ base : Heap, (K w.params).In base → base.Ns mainGlobals mg → (∀ q ∈ cs, TabB base mg q.1 q.2) → FnG l.prog w (K w.params) mg base CX0 k g fd [x] (spLawT (K w.params) n cs)) :
    PySem.W.WalkO q loose XP YP l.row.toRowW d [] (fun f vs => PySem.call f vs) :=
  Att.attach_call hn hdf fun w s₀ s₁ mg mb g o pm cd doc a vs ns G Y ho hd hcd hmg hobj hints hlen hg => by
    have inK := hY w _ Y
    obtain ⟨fd, cs, T, hb, hF⟩ := F w mg g _ Y inK G.T.g hmg
    exact law_trueT inK G.T.g G.T.b G.T.builtins G.T.nolimit hg T G.T.bmain hobj hints (Nat.le_trans hlen hn2) hlen rg hF hb
end DL

namespace DL
open PySem PySem.Spec PyProof.Rows L2 LamX

abbrev FXM := List PyData → (PyData → Prop) → (Str → PyData → Prop) → Prop
/-- an error that Ψ speaks of is wished for -/
def ErrTo (W : Wd) (N : Addr → Prop) (H : Hp) (er : Errs) (E : XK) (Ψ : Str → PyData → Prop) : Prop :=
  ∀ x C fld v H' d dd, er x = some (C, fld) → Ψ x d → Im W N H' d v → Keep (fun _ => False) H H' → H' dd = some (.xd [(fld, v)]) → E (.ref C) (some dd) H'
def spXM (W : Wd) (er : Errs) (n : Nat) (F : FXM) : Sp := fun vs H Q E => ∃ (N : Addr → Prop) (ds : List PyData) (Φ : PyData → Prop) (Ψ : Str → PyData → Prop), vs.length = n ∧ (∀ a, N a → ∃ o, H a = some o) ∧ ImA W N H ds vs ∧ F ds Φ Ψ ∧
  (∀ v H' d, Φ d → Im W N H' d v → Keep (fun _ => False) H H' → Q v H') ∧ ErrTo W N H er E Ψ
def noRaiseM (F : FXM) : FD := fun ds Φ => F ds Φ fun _ _ => False
def wGEM (F : FXM) (n m : Nat) (idx : List Nat) (wr wk : WA) : WXE := fun ρ Φ Ψ => wr ρ fun xs => wk ρ fun ys => xs.length = n ∧ ys.length = m ∧ F (perm idx (xs ++ ys)) Φ Ψ
section
variable {X : Cx} {G : Gx} {pos p : Pos} {s : Bool} {e : Expr} {es : List Expr} {wr wk : WA} {kws : List Keyword} {x : Str} {k n j : Nat} {ps ks : List Str} {F : FXM} {idx : List Nat} {st : Stmt} {er : Errs}
theorem up_XM {m : Nat} {E : XK} (hp : (perm idx (List.range (n + m))).length = ps.length) (σ : L2.St) (H : Hp) (Q : VK) (h : up G s (wG (noRaiseM F) n m idx wr wk) σ H Q) : tG (spXM G.W er ps.length F) n m idx E (upA G s wr) (upA G s wk) σ H Q := by
  obtain ⟨an, O, ρ, Φ, S, h, q⟩ := h
  refine ⟨an, O, ρ, _, S, h, fun vs H1 ds h1 im k1 i1 => ?_⟩
  have S1 := S.keep k1 i1
  refine ⟨an, O, ρ, _, S1, h1, fun zs H2 es h2 im2 k2 i2 => ?_⟩
  have S2 := S1.keep k2 i2
  obtain ⟨l1, l2, hF⟩ := h2
  have lp : (perm idx (vs ++ zs)).length = ps.length := by
    rw [perm_len, List.length_append, ImA.length im, ImA.length im2, l1, l2]
    exact hp
  exact ⟨(ImA.length im).trans l1, (ImA.length im2).trans l2, Nn G O s, _, Φ, _, lp, fun a z => S2.there (nn_v z), ImA.perm (ImA.append (S1.ima k2 im) im2) idx, hF,
    fun v H3 d hd im3 k3 => q v H3 d hd im3 ((k1.trans k2).trans (k3.mono fun a z => z.elim)) (G.R.st _ _ i2 fun a o _ e => k3.ob a o e id), fun _ _ _ _ _ _ _ _ z => z.elim⟩
theorem up_ErrM {m : Nat} {E : XK} (hp : (perm idx (List.range (n + m))).length = ps.length) (σ : L2.St) (H : Hp) (Q : VK) (h : upErr G er (wGEM F n m idx wr wk) E σ H Q) : tG (spXM G.W er ps.length F) n m idx E (upA G true wr) (upA G true wk) σ H Q := by
  obtain ⟨an, O, ρ, Φ, Ψ, S, h, q, qe⟩ := h
  refine ⟨an, O, ρ, _, S, h, fun vs H1 ds h1 im k1 i1 => ?_⟩
  have S1 := S.keep k1 i1
  refine ⟨an, O, ρ, _, S1, h1, fun zs H2 es h2 im2 k2 i2 => ?_⟩
  have S2 := S1.keep k2 i2
  obtain ⟨l1, l2, hF⟩ := h2
  have lp : (perm idx (vs ++ zs)).length = ps.length := by
    rw [perm_len, List.length_append, ImA.length im, ImA.length im2, l1, l2]
    exact hp
  have kk : ∀ {H3}, Keep (fun _ => False) H2 H3 → Keep G.R.M H H3 ∧ G.R.I H3 := fun {H3} k3 => ⟨(k1.trans k2).trans (k3.mono fun a z => z.elim), G.R.st _ _ i2 fun a o _ e => k3.ob a o e id⟩
  exact ⟨(ImA.length im).trans l1, (ImA.length im2).trans l2, Nn G O true, _, Φ, Ψ, lp, fun a z => S2.there (nn_v z), ImA.perm (ImA.append (S1.ima k2 im) im2) idx, hF, fun v H3 d hd im3 k3 => q v H3 d hd im3 (kk k3).1 (kk k3).2,
    fun x C fld v H3 d dd ec hd im3 k3 e => qe x C fld v H3 d dd ec hd im3 (kk k3).1 (kk k3).2 e⟩
theorem de_callXMP (Cl : CalX X.prog X.w G.W.K X.mg X.base k x st ps (spXM G.W er ps.length F)) (hK : X.K = G.W.K) (hr : Rg j X.A) (hb : KbS x st ps [] n idx) (hkj : k ≤ j) (hg : Gl X x) (ha : PA X (e :: es) (upA G s wr)) (hp : (perm idx (List.range (n + 0))).length = ps.length := by rfl)
    (hdb : (x == ("__debug__" : Str)) = false := by decide) (he : starEach (e :: es) X.env = (false, eval e X.env) :: starEach es X.env := by rfl) (hpl : (backTo pos (starEach es X.env)).any (·.1) = false := by rfl) :
    PE X (.Call (.Name x p) (e :: es) [] pos) (up G s (wG (noRaiseM F) n 0 idx wr wNil)) := by
  obtain ⟨f, fd, Fn, hm, Fg⟩ := Cl.ex
  rw [← hK] at Fn Fg
  refine pe_weak (pe_callGP (E := fun _ _ _ => False) Fg (hr.mono hkj) (Kb.of Fn hb) passX hg hm Fn.kp ha hdb he hpl) fun σ H Q h => ?_
  obtain ⟨an, O, ρ, Φ, S, h, q⟩ := up_XM (E := fun _ _ _ => False) (er := er) hp σ H Q h
  refine ⟨an, O, ρ, _, S, h, fun vs H1 ds h1 im k1 i1 => ?_⟩
  obtain ⟨an2, O2, ρ2, Φ2, S2, h2, q2⟩ := q vs H1 ds h1 im k1 i1
  exact q2 [] H1 [] h2 rfl (Keep.refl _) S2.inv
theorem de_callXM0 (Cl : CalX X.prog X.w G.W.K X.mg X.base k x st ps (spXM G.W er ps.length F)) (hK : X.K = G.W.K) (hr : Rg j X.A) (hb : KbS x st ps ks 0 idx) (hkj : k ≤ j) (hg : Gl X x) (hkw : PK X kws (upA G s wk)) (hp : (perm idx (List.range (0 + ks.length))).length = ps.length := by rfl)
    (hall : (backToKw pos (keywordEach kws X.env)).all (·.1.isSome) = true := by rfl) (hks : (backToKw pos (keywordEach kws X.env)).filterMap (·.1) = ks := by rfl) (hdb : (x == ("__debug__" : Str)) = false := by decide)
    (hpl : ((backTo pos (starEach [] X.env)).any (·.1) || (backToKw pos (keywordEach kws X.env)).any (·.1.isNone)) = false := by rfl) :
    PE X (.Call (.Name x p) [] kws pos) (up G s (wG (noRaiseM F) 0 ks.length idx wNil wk)) := by
  obtain ⟨f, fd, Fn, hm, Fg⟩ := Cl.ex
  rw [← hK] at Fn Fg
  refine pe_weak (pe_callG0 (E := fun _ _ _ => False) Fg (hr.mono hkj) (Kb.of Fn hb) passX hg hm Fn.kp hkw hall hks hdb hpl) fun σ H Q h => ?_
  obtain ⟨an, O, ρ, Φ, S, h, q⟩ := up_XM (E := fun _ _ _ => False) (er := er) hp σ H Q h
  exact q [] H [] h rfl (Keep.refl _) S.inv
/-- a call whose errors are wished for -/
theorem de_callEM {E : XK} (tk : Takes X fun cl d _ H => E cl d H) (Cl : CalX X.prog X.w G.W.K X.mg X.base k x st ps (spXM G.W er ps.length F)) (hK : X.K = G.W.K) (hr : Rg j X.A) (hb : KbS x st ps [] n idx) (hkj : k ≤ j) (hg : Gl X x) (ha : PA X (e :: es) (upA G true wr)) (hp : (perm idx (List.range (n + 0))).length = ps.length := by rfl)
    (hdb : (x == ("__debug__" : Str)) = false := by decide) (he : starEach (e :: es) X.env = (false, eval e X.env) :: starEach es X.env := by rfl) (hpl : (backTo pos (starEach es X.env)).any (·.1) = false := by rfl) :
    PE X (.Call (.Name x p) (e :: es) [] pos) (upErr G er (wGEM F n 0 idx wr wNil) E) := by
  obtain ⟨f, fd, Fn, hm, Fg⟩ := Cl.ex
  rw [← hK] at Fn Fg
  refine pe_weak (pe_callGP (E := E) Fg (hr.mono hkj) (Kb.of Fn hb) (passes_call tk fun _ _ _ _ z => z) hg hm Fn.kp ha hdb he hpl) fun σ H Q h => ?_
  obtain ⟨an, O, ρ, Φ, S, h, q⟩ := up_ErrM (E := E) hp σ H Q h
  refine ⟨an, O, ρ, _, S, h, fun vs H1 ds h1 im k1 i1 => ?_⟩
  obtain ⟨an2, O2, ρ2, Φ2, S2, h2, q2⟩ := q vs H1 ds h1 im k1 i1
  exact q2 [] H1 [] h2 rfl (Keep.refl _) S2.inv
theorem de_callEM0 {E : XK} (tk : Takes X fun cl d _ H => E cl d H) (Cl : CalX X.prog X.w G.W.K X.mg X.base k x st ps (spXM G.W er ps.length F)) (hK : X.K = G.W.K) (hr : Rg j X.A) (hb : KbS x st ps ks 0 idx) (hkj : k ≤ j) (hg : Gl X x) (hkw : PK X kws (upA G true wk)) (hp : (perm idx (List.range (0 + ks.length))).length = ps.length := by rfl)
    (hall : (backToKw pos (keywordEach kws X.env)).all (·.1.isSome) = true := by rfl) (hks : (backToKw pos (keywordEach kws X.env)).filterMap (·.1) = ks := by rfl) (hdb : (x == ("__debug__" : Str)) = false := by decide)
    (hpl : ((backTo pos (starEach [] X.env)).any (·.1) || (backToKw pos (keywordEach kws X.env)).any (·.1.isNone)) = false := by rfl) :
    PE X (.Call (.Name x p) [] kws pos) (upErr G er (wGEM F 0 ks.length idx wNil wk) E) := by
  obtain ⟨f, fd, Fn, hm, Fg⟩ := Cl.ex
  rw [← hK] at Fn Fg
  refine pe_weak (pe_callG0 (E := E) Fg (hr.mono hkj) (Kb.of Fn hb) (passes_call tk fun _ _ _ _ z => z) hg hm Fn.kp hkw hall hks hdb hpl) fun σ H Q h => ?_
  obtain ⟨an, O, ρ, Φ, S, h, q⟩ := up_ErrM (E := E) hp σ H Q h
  exact q [] H [] h rfl (Keep.refl _) S.inv
def wRaiseM (x : Str) (Ψ : Str → PyData → Prop) (we : WE) : WS := fun _ ρ => we ρ (Ψ x)
def wExprE (Ψ : Str → PyData → Prop) (wx : WXE) : WS := fun W ρ => wx ρ (fun _ => W.nx ρ) Ψ
def wRetM (Ψ : Str → PyData → Prop) (wx : WXE) : WS := fun W ρ => wx ρ W.rt Ψ
variable {E : XK} {Ψ : Str → PyData → Prop} {wx : WXE} {we : WE} {C : Addr} {fld : Str} {pos2 : Pos}
theorem ds_raiseM (hc : X.calm = true) (tk : L2.Takes X fun cls d _ H => E cls d H) (Cl : CalE X.prog X.w X.K X.mg X.base x fld C) (ec : er x = some (C, fld)) (hr : Rg j X.A) (hj : 2 ≤ j) (hg : Gl X x) (ha : PE X e (up G s we)) (hE : ErrTo G.W G.A G.H0 er E Ψ) (hM : ∀ a, ¬ G.R.M a)
    (hdb : (x == ("__debug__" : Str)) = false := by decide) (he : starEach [e] X.env = (false, eval e X.env) :: starEach [] X.env := by rfl) (hpl : (backTo pos (starEach [] X.env)).any (·.1) = false := by rfl) :
    PS X (.Raise (some (.Call (.Name x p) [e] [] pos)) none pos2) (upS G (wRaiseM x Ψ we)) :=
  ds_raise (Ψ := Ψ x) hc tk Cl hr hj hg ha (fun v H' d dd hd im k e => hE x C fld v H' d dd ec hd im (k.mono fun a z => hM a z) e) hdb he hpl
theorem ds_exprE (h : PE X e (upErr G er wx E)) (hE : ErrTo G.W G.A G.H0 er E Ψ) (hM : ∀ a, ¬ G.R.M a) (hs : swapsWith e none pos.line X.env = pure false := by rfl) : PS X (.Expr e pos) (upS G (wExprE Ψ wx)) :=
  ps_weak (ps_expr h hs) fun D σ H ⟨an, O, ρ, W, S, hw, n, r, b, c⟩ =>
    ⟨an, O, ρ, _, _, S, hw, fun v H1 d h1 im k1 i1 => n _ _ _ _ (S.keep k1 i1) h1, fun y C fld v H' d dd e1 hd im k i e => hE y C fld v H' d dd e1 hd (Im.avoid (fun a o _ z => nn_a z) d v im) ((S.kp.trans k).mono fun a z => hM a z) e⟩
theorem ds_retM (h : PE X e (upErr G er wx E)) (hE : ErrTo G.W G.A G.H0 er E Ψ) (hM : ∀ a, ¬ G.R.M a) : PS X (.Return (some e) pos) (upS G (wRetM Ψ wx)) :=
  ps_weak (ps_ret h) fun D σ H ⟨an, O, ρ, W, S, hw, n, r, b, c⟩ =>
    ⟨an, O, ρ, W.rt, _, S, hw, fun v H' d hd im k i => r v H' d hd (Im.avoid (fun a o _ z => nn_a z) d v im) (S.kp.trans k) i, fun y C fld v H' d dd e1 hd im k i e => hE y C fld v H' d dd e1 hd (Im.avoid (fun a o _ z => nn_a z) d v im) ((S.kp.trans k).mono fun a z => hM a z) e⟩
end
section
variable {P : Program} {w : World} {mg : Str → Option Value} {base : Heap} {W : Wd} {k : Nat} {f : Addr} {fd : FuncData} {ps N : List Str} {x qual : Str} {st : Stmt} {F : FXM} {er : Errs}
/-- a def that takes data and gives data or raises one of the errors -/
theorem ok_raisesM (Fn : Fun W.K x qual st f fd) (S : FnScope N ps (defScope st)) (hn : ps.length ≤ N.length) (len : ∀ ds Φ Ψ, F ds Φ Ψ → ds.length = ps.length)
    (body : ∀ (cdv : Value) (A : Around) (env : List Env) (s : Shared) (H : Hp) (E : XK) (N0 : Addr → Prop) (Ψ : Str → PyData → Prop), Rg k (A.deeper (envOfC qual (defScope st) s.heap.objs.size f cdv)) → ErrTo W N0 H er E Ψ →
      ∃ ws, PSs (cxOf (L2.CX P w) P w W.K mg base N qual (defScope st) f cdv A env s H E) (defBody st) (upS ⟨W, Res.none, N0, H⟩ ws) ∧ ∀ ds Φ, F ds Φ Ψ → ws (retX Φ) (ev0 N.length ds)) :
    FnG P w W.K mg base (L2.CX P w) (k + 1) f fd ps (spXM W er ps.length F) := by
  refine FnG.mk' Fn S (fun vs H Q E h => ?_) fun cdv A env s H vs Q E hr h => ?_
  · obtain ⟨N', ds, Φ, Ψ, hl, _⟩ := h
    exact hl
  · obtain ⟨N', ds, Φ, Ψ, hl, al, im, hF, q, hE⟩ := h
    obtain ⟨ws, pt, hw⟩ := body cdv A env s H E N' Ψ hr hE
    refine ⟨_, pt, [], _, _, retX Φ, sta_start (P := True) (by have := len ds Φ Ψ hF; omega) True.intro al (fun a z => z.elim) im, hw ds Φ hF, ?_, ?_, ?_, ?_⟩
    · exact fun O2 σ2 H2 ρ2 S2 z => q .non H2 .none z rfl S2.kp
    · exact fun v H2 d z m kk _ => q v H2 d z m kk
    · exact fun O2 σ2 H2 ρ2 S2 z => z
    · exact fun O2 σ2 H2 ρ2 S2 z => z
/-- what stands at f has the code object at c -/
def CodeAt (K : PySem.W.Frag) (f c : Addr) : Prop := ∀ oc od fd osl, K.lookup f = some ⟨oc, od, .func fd, osl⟩ → fd.code = .ref c
/-- a def that draws and makes lambdas: its code object is known -/
theorem ok_drawL {RR : Addr → Addr → Res} {F : FD} {cL : Addr} (Fn : Fun W.K x qual st f fd) (ca : CodeAt W.K f cL) (S : FnScope N ps (defScope st)) (hn : ps.length ≤ N.length) (len : ∀ ds Φ, F ds Φ → ds.length + 1 = ps.length)
    (body : ∀ (A : Around) (env : List Env) (s : Shared) (H : Hp) (E : XK) (N0 : Addr → Prop) (b c : Addr), Rg k (A.deeper (envOfC qual (defScope st) s.heap.objs.size f (.ref cL))) →
      ∃ ws, PSs (cxOf CX0 P w W.K mg base N qual (defScope st) f (.ref cL) A env s H E).nox (defBody st) (upS ⟨W, RR b c, N0, H⟩ ws) ∧ ∀ ds Φ, F ds Φ → ws (retX Φ) (ev1 N.length ds)) :
    FnG P w W.K mg base CX0 (k + 1) f fd ps (spR W RR ps.length F) := by
  obtain ⟨oc, od, kV, doc, pm, an, cdv, ct, osl, rfl, lk, hcd⟩ := Fn.ex
  obtain rfl : cdv = .ref cL := ca _ _ _ _ lk
  refine ⟨fun vs H Q E h => ?_, fun A env s H args us vs Q E hr e0 hb rv hsp => ?_⟩
  · obtain ⟨b, c, N', ds, vs', Φ, _, hl, _⟩ := h
    exact hl
  obtain ⟨b, c, N', ds, vs', Φ, rfl, hl, hI, ra, al, im, hF, q⟩ := hsp
  refine run_ofS lk hcd S hr.room e0 hb rv hl fun _ => ?_
  obtain ⟨ws, pt, hw⟩ := body A env s H E N' b c (hr.deeper _)
  refine ⟨_, pt.nox, [], _, _, retX Φ, sta_startR (G := ⟨W, RR b c, N', H⟩) (by have := len ds Φ hF; omega) hI al ra im, hw ds Φ hF, ?_, ?_, ?_, ?_⟩
  · exact fun O2 σ2 H2 ρ2 S2 z => q .non H2 .none z rfl S2.kp S2.inv
  · exact fun v H2 d z m kk i => q v H2 d z m kk i
  · exact fun O2 σ2 H2 ρ2 S2 z => z
  · exact fun O2 σ2 H2 ρ2 S2 z => z
end
def drwT (T : List (Addr × Str)) (b c : Addr) : Res where
  M := fun a => a = b ∨ a = c ∨ ∃ p ∈ T, a = p.1
  I := fun H => (drw b c).I H ∧ Tabs T H ∧ ∀ p ∈ T, p.1 ≠ b ∧ p.1 ≠ c
  b := b
  st := fun H H' ⟨h1, h2, h3⟩ q => ⟨(drw b c).st H H' h1 fun a o m e => q a o (m.elim (fun m => .inl (m.elim .inl fun z => .inr (.inl z))) .inr) e, tabs_stay h2 fun a o n e => q a o (.inr n) e, h3⟩
  al := fun H a ⟨h1, h2, h3⟩ m => by
    rcases m with m | m | ⟨p, hp, rfl⟩
    · exact (drw b c).al H a h1 (.inl m)
    · exact (drw b c).al H a h1 (.inr m)
    · obtain ⟨ps, e, _⟩ := h2 p hp
      exact ⟨_, e⟩
theorem drwT_res (T : List (Addr × Str)) (b c : Addr) : ResT T (drwT T b c) := ⟨fun G h => h.2.1, fun p hp => .inr (.inr ⟨p, hp, rfl⟩), fun G G1 P hP h k t => by
  obtain ⟨⟨ne, ks, m, h1, h2, rest⟩, h3, h4⟩ := h
  obtain ⟨p, hp, rfl⟩ := hP
  exact ⟨⟨ne, ks, m, k.ob b _ h1 (fun z => (h4 p hp).1 z.symm), k.ob c _ h2 (fun z => (h4 p hp).2 z.symm), rest⟩, t, h4⟩⟩
theorem FnG.weak {P : Program} {w : World} {K : PySem.W.Frag} {mg : Str → Option Value} {base : Heap} {CX : CXT} {k : Nat} {f : Addr} {fd : FuncData} {ps : List Str} {sp sp' : Sp} (F : FnG P w K mg base CX k f fd ps sp) (h : ∀ vs H Q E, sp' vs H Q E → sp vs H Q E) : FnG P w K mg base CX k f fd ps sp' :=
  ⟨fun vs H Q E z => F.size vs H Q E (h _ _ _ _ z), fun A env s H args us vs Q E hr e0 b r z => F.goes A env s H args us vs Q E hr e0 b r (h _ _ _ _ z)⟩
/-- what draws, draws beside tables too -/
theorem spR_tabs {W : Wd} {n : Nat} {F : FD} (T : List (Addr × Str)) (vs : List V) (H : Hp) (Q : VK) (E : XK) (h : spR W (drwT T) n F vs H Q E) : spR W drw n F vs H Q E := by
  obtain ⟨b, c, N, ds, vs', Φ, e, hl, ⟨i1, i2, i3⟩, hM, al, im, hF, q⟩ := h
  refine ⟨b, c, N, ds, vs', Φ, e, hl, i1, fun a m => hM a (m.elim .inl fun z => .inr (.inl z)), al, im, hF, fun v H' d hd im' k i => ?_⟩
  have kT : Keep (drwT T b c).M H H' := k.mono fun a m => m.elim .inl fun z => .inr (.inl z)
  obtain ⟨ne, ks, m, h1, h2, _⟩ := i1
  refine q v H' d hd im' kT ⟨i, tabs_stay i2 fun a o n e1 => k.ob a o e1 fun z => ?_, i3⟩
  rcases z with rfl | rfl
  · rw [h1] at e1; exact n _ (Option.some.inj e1).symm
  · rw [h2] at e1; exact n _ (Option.some.inj e1).symm
end DL

namespace DL
open PySem PySem.Spec PyProof.Rows L2 LamX

section
variable {X : Cx}
def rLcm : List V → Hp → VK → Prop := fun vs H Q => ∃ a b : Int, vs = [.int a, .int b] ∧ a.natAbs < 2 ^ 13000 ∧ b.natAbs < 2 ^ 13000 ∧ Q (.int ((Nat.lcm a.natAbs b.natAbs : Nat) : Int)) H
theorem log_lt {n k : Nat} (h : n < 2 ^ k) (hk : 0 < k) : n.log2 < k := by
  by_cases z : n = 0
  · rw [z]; exact hk
  · exact (Nat.log2_lt z).mpr h
theorem cr_lcm : CallR X (.builtin "math.lcm") rLcm := by
  intro pins s σ H vs us Q I r h
  obtain ⟨a, b, rfl, ha, hb, q⟩ := h
  obtain ⟨t, u, rfl⟩ := Vals.int2 r
  have one : Nat.lcm 1 a.natAbs = a.natAbs := Nat.lcm_one_left _
  have l1 : (max 1 a.natAbs).log2 < 13000 := log_lt (by
    have : 1 < 2 ^ 13000 := Nat.one_lt_two_pow (by decide)
    rcases Nat.le_total 1 a.natAbs with z | z
    · rw [Nat.max_eq_right z]; exact ha
    · rw [Nat.max_eq_left z]; exact this) (by decide)
  have l2 : (max a.natAbs b.natAbs).log2 < 13000 := log_lt (by
    rcases Nat.le_total a.natAbs b.natAbs with z | z
    · rw [Nat.max_eq_right z]; exact hb
    · rw [Nat.max_eq_left z]; exact ha) (by decide)
  have l3 : ((((Nat.lcm 1 a.natAbs).lcm b.natAbs : Nat) : Int)).natAbs.log2 < bitsLine := by
    rw [Int.natAbs_natCast, one]
    have le : Nat.lcm a.natAbs b.natAbs ≤ a.natAbs * b.natAbs := by
      by_cases z : a.natAbs * b.natAbs = 0
      · rcases Nat.mul_eq_zero.mp z with z | z
        · rw [z]; simp
        · rw [z]; simp
      · exact Nat.le_of_dvd (Nat.pos_of_ne_zero z) (Nat.lcm_dvd_mul _ _)
    have lt : Nat.lcm a.natAbs b.natAbs < 2 ^ 26000 := Nat.lt_of_le_of_lt le (by
      rw [show (26000 : Nat) = 13000 + 13000 from rfl, Nat.pow_add]
      exact Nat.mul_lt_mul'' ha hb)
    have := log_lt lt (by decide)
    exact Nat.lt_trans this (by decide)
  refine call_function_meets PySem.W.MGF.kind_lcm PySem.W.MGF.plain_lcm PySem.W.MGF.entry_lcm (PySem.W.MGF.args_lcm _ _) (PySem.W.mg_run_lcm a t b u (by omega) (by omega) l3).meets ?_
  rw [one]
  exact ⟨.int _, H, I.tok _, ⟨_, rfl⟩, q⟩
end
def fLcm : List PyData → (PyData → Prop) → Prop := fun ds Φ => match ds with | [.int a, .int b] => a.natAbs < 2 ^ 13000 ∧ b.natAbs < 2 ^ 13000 ∧ Φ (.int ((Nat.lcm a.natAbs b.natAbs : Nat) : Int)) | _ => False
theorem cd_lcm {G : Gx} {s s1 : Bool} : CallD G s s1 rLcm fLcm := by
  intro an O σ ρ H vs ds Φ Q S hv hf q
  unfold fLcm at hf
  split at hf
  · obtain ⟨v, v', rfl, h1, h2⟩ := im2 hv
    cases h1
    cases h2
    exact ⟨_, _, rfl, hf.1, hf.2.1, q _ H _ hf.2.2 rfl (Keep.refl H) S.inv⟩
  · exact hf.elim
/-- a def that calls what it gets and tells what came of it -/
structure CalTh (P : Program) (w : World) (K : PySem.W.Frag) (mg : Str → Option Value) (base : Heap) (x a : Str) (st : Stmt) (N : List Str) (er : Errs) (ok : Option Str) (tags : List (Str × Str)) : Prop where
  ex : ∃ (g : Addr) (fd : FuncData), Fun K x x st g fd ∧ mg x = some (.ref g) ∧ Binds K fd [a] []
  sc : FnScope N [a] (defScope st)
  at0 : N[0]? = some a
  vis : Vis (defScope st) a
  gives : ∀ (X : Cx) (lq : Str) (g : Addr) (cd : Value) (k : Nat), X.prog = P → X.w = w → X.K = K → X.mg = mg → X.base = base → GivesG X N x (defScope st) g cd (defBody st) a lq k (TTk er ok tags)
section
variable {X : Cx} {G : Gx} {T : List (Addr × Str)} {x a : Str} {c P : Addr} {j : Nat} {st : Stmt} {N : List Str} {pa : Arguments} {bd : Expr} {sc : Scope} {wx : WXE} {p lp pos : Pos} {er : Errs} {ok : Option Str} {tags : List (Str × Str)} {s : Bool}
theorem de_thunkC (k : Nat) (Th : CalTh X.prog X.w X.K X.mg X.base x a st N er ok tags) (RT : ResT T G.R) (hg : Gl X x) (TB : TabB X.base X.mg c P) (ec : X.env.code = .ref c) (mT : (P, X.env.qual ++ "<lambda>") ∈ T) (uT : ∀ p ∈ T, p.1 = P → p.2 = X.env.qual ++ "<lambda>") (hr : Rg j X.A) (hj : k + 2 ≤ j) (sc0 : Scope) (hs0 : X.env.scope = sc0) (L : lamSB sc0 sc = true) (nodef : defaultsOf pa X.env = ([], []))
    (bnd : ∀ (q : Str) (cl : List (Str × Addr)) (pm cv ct : Value), bindArgs (PySem.W.kla_fn "<lambda>" q pa bd sc cl pm cv ct) ⟨[], []⟩ = pure [])
    (body : ∀ (g : Addr) (cd : Value) (z : Shared) (f c1 : Addr) (E : XK), LamB X x (defScope st) g cd z sc f c1 k bd E (upErr G er wx E))
    (hdb : (x == ("__debug__" : Str)) = false := by decide) (hd : (a == ("__debug__" : Str)) = false := by decide) (hcd : (a == ("__classdict__" : Str)) = false := by decide) :
    PE X (.Call (.Name x p) [.Lambda pa bd sc lp] [] pos) (up G s (wThunk ok tags wx)) := by
  obtain ⟨g, fd, Fn, hm, hb⟩ := Th.ex
  exact de_thunk (k := k) RT hg hm Fn hb Th.sc Th.at0 Th.vis (fun cd => Th.gives X _ g cd k rfl rfl rfl rfl rfl) TB ec mT uT (hr.mono hj) (lamS_by (by rw [hs0]; exact L)) nodef bnd (body g) hdb hd hcd
end
def wFz (i : Nat) (we : WE) : WE := fun ρ Φ => match nth ρ i with | .o ds => we (put ρ i (.d (.list ds))) (fun d => lstFree d = true ∧ Φ d) | _ => False
theorem de_fz {X : Cx} {G : Gx} {s s2 : Bool} {e : Expr} {we : WE} (i : Nat) (h : PE X e (up G s we)) : PE X e (up G s2 (wFz i we)) := pe_weak h fun σ H Q ⟨an, O, ρ, Φ, S, hw, q⟩ => by
  unfold wFz at hw
  cases hx : nth ρ i with
  | o ds =>
    rw [hx] at hw
    exact ⟨an, _, _, _, S.frz hx, hw, fun v H' d hd im k i1 => q v H' d hd.2 (Im.free d v hd.1 im) k i1⟩
  | _ => rw [hx] at hw; exact hw.elim
theorem dt_pw {X : Cx} {G : Gx} {e : Expr} {t : WT} (h : L2.PW X e (upT G t)) : PT X e (upT G t) := h.pt
end DL

namespace DL
open PySem PySem.Spec PyProof.Rows L2 LamX

/-- a name walked that is a list or a tuple -/
def wSqI (i : Nat) : WI := fun ρ Φ => match nth ρ i with | .d (.list ds) => Φ ds | .d (.tuple ds) => Φ ds | _ => False
theorem di_seq {X : Cx} {G : Gx} {s : Bool} {e tg : Expr} (i : Nat) (hl : PI X tg e (upI G s (wListI (wVar i)))) (ht : PI X tg e (upI G s (wTupI (wVar i)))) : PI X tg e (upI G s (wSqI i)) :=
  ⟨fun pins sh σ H R I ⟨an, O, ρ, Φ, S, hw, q⟩ => by
    unfold wSqI at hw
    split at hw
    · rename_i ds hx
      exact hl.run pins sh σ H R I ⟨an, O, ρ, Φ, S, by show wVar i ρ _; unfold wVar; rw [hx]; exact hw, q⟩
    · rename_i ds hx
      exact ht.run pins sh σ H R I ⟨an, O, ρ, Φ, S, by show wVar i ρ _; unfold wVar; rw [hx]; exact hw, q⟩
    · exact hw.elim⟩
section
variable {P : Program} {w : World} {K : PySem.W.Frag} {mg : Str → Option Value} {base : Heap} {CX : CXT} {k : Nat} {f cL : Addr} {fd : FuncData} {ps : List Str} {sp : Sp}
/-- a def whose code object is known -/
theorem FnG.mkL {x qual : Str} {st : Stmt} {N : List Str} (F : Fun K x qual st f fd) (ca : CodeAt K f cL) (S : FnScope N ps (defScope st)) (size : ∀ vs H Q E, sp vs H Q E → vs.length = ps.length)
    (body : ∀ (A : Around) (env : List Env) (s : Shared) (H : Hp) (vs : List V) (Q : VK) (E : XK), Rg k (A.deeper (envOfC qual (defScope st) s.heap.objs.size f (.ref cL))) → sp vs H Q E →
      ∃ t, PSs (cxOf CX P w K mg base N qual (defScope st) f (.ref cL) A env s H E) (defBody st) t ∧ t { nx := fun _ H2 => Q .non H2, rt := Q } (start N vs) H) : FnG P w K mg base CX (k + 1) f fd ps sp := by
  obtain ⟨oc, od, kV, doc, pm, an, cdv, ct, osl, rfl, lk, hcd⟩ := F.ex
  obtain rfl : cdv = .ref cL := ca _ _ _ _ lk
  refine ⟨size, fun A env s H args us vs Q E hr e0 hb rv hsp => ?_⟩
  have keepK := e0.mod.kin.keeps fun b o e => (e0.bs b o e).1
  have keepL := e0.mod.nolimit.keeps fun b o e => (e0.bs b o e).1
  have kinds : ∀ y ∈ ps.zip us, (defScope st).names.lookup y.1 = some .local ∨ ((defScope st).names.lookup y.1 = some .cell ∧ ((cellsFrom (s.heap.objs.size + 1) (defScope st).names []).lookup y.1).isSome = true) := by
    rintro ⟨n, v⟩ hy
    exact (S.par n (List.of_mem_zip hy).1).elim .inl fun q => .inr ⟨q, PySem.W.cellsFrom_some _ _ _ (.inl q)⟩
  refine codeAny_call_function hr.room.depth (keepK _ _ lk) rfl S.co S.gen rfl (PySem.W.codeRec_of keepK hcd) (hb _ _ _ _ ?_)
  refine wpAny_newFunctionEnv_cells S.kind kinds fun e he s1 hc => ?_
  subst he
  refine ⟨keepL.keeps hc.toInCall.keep, codeAny_func ?_⟩
  obtain ⟨t, pt, q⟩ := body A env s H vs Q E (hr.deeper _) hsp
  have I0 := inv_start (CX := CX) (P := P) (w := w) (cd := .ref cL) (qual := qual) (E := E) S hr.room.hd e0 (size _ _ _ _ hsp) rv hc
  refine wpAny_mono (pt.run [] s1 _ H _ I0 q) (fun fl s2 ends => ?_) fun _ _ z => z
  cases fl with
  | next => obtain ⟨_, H2, J, z⟩ := ends; exact ⟨.non, H2, J.os, J.bare, J.base, J.hok, rfl, z⟩
  | ret u => obtain ⟨v, _, H2, J, r2, z⟩ := ends; exact ⟨v, H2, J.os, J.bare, J.base, J.hok, r2, z⟩
  | brk => obtain ⟨_, _, _, z⟩ := ends; exact z.elim
  | cont => obtain ⟨_, _, _, z⟩ := ends; exact z.elim
theorem codeAt_of {oc : Value} {od : Option Addr} {fd0 : FuncData} {sl : Array (Option Value)} {c : Addr} (l : K.lookup f = some ⟨oc, od, .func fd0, sl⟩) (e : fd0.code = .ref c) : CodeAt K f c := fun oc' od' fd' osl' l' => by
  rw [l] at l'
  injection l' with l'
  injection l' with _ _ h3 _
  injection h3 with h3
  rw [← h3]
  exact e
end
theorem not_caught {K : PySem.W.Frag} {S C : Addr} (b : PySem.W.subIn K (.ref C) (.type "BaseException") = some true) (c : PySem.W.isClsIn K C = true) (t : PySem.W.typeIn K (.ref C) = some (.type "type")) (s : PySem.W.subIn K (.ref S) (.ref C) = some false) : PySem.W.exmOne K (.ref S) (.ref C) = some false := by
  unfold PySem.W.exmOne PySem.W.kitCls
  have c2 : (PySem.W.clsIn K C).isSome = true := c
  simp only [b, c2, t, s]
  rfl
def erTwo (x y : Str) (a b : Addr) (f : Str) : Errs := fun z => if z = x then some (a, f) else if z = y then some (b, f) else none
theorem erTwo_1 (x y : Str) (a b : Addr) (f : Str) : erTwo x y a b f x = some (a, f) := if_pos rfl
theorem erTwo_2 {x y : Str} (h : y ≠ x) (a b : Addr) (f : Str) : erTwo x y a b f y = some (b, f) := by
  unfold erTwo
  rw [if_neg h, if_pos rfl]
/-- the drawn state beside tables that are still empty -/
theorem drwT_start {T : List (Addr × Str)} {b c : Addr} {H H1 : Hp} (h1 : (drw b c).I H1) (nb : H b = none) (nc : H c = none) (kp : Keep (fun _ => False) H H1) (e : ∀ p ∈ T, H p.1 = some (.tbl #[])) : (drwT T b c).I H1 :=
  ⟨h1, fun p hp => TabS.nil (kp.ob _ _ (e p hp) fun z => z), fun p hp => ⟨fun z => (by have := e p hp; rw [z, nb] at this; cases this), fun z => (by have := e p hp; rw [z, nc] at this; cases this)⟩⟩
end DL

namespace DL
open PySem PySem.Spec PyProof.Rows L2

/-- a drawn state with so many draws left -/
structure ResN where
  M : Addr → Prop
  I : Nat → Hp → Prop
  b : Addr
  st : ∀ n H H', I n H → (∀ a o, (M a ∨ ∀ xs, o ≠ HO.lst xs) → H a = some o → H' a = some o) → I n H'
  al : ∀ n H a, I n H → M a → ∃ o, H a = some o
  mono : ∀ n m H, I n H → m ≤ n → I m H
def ResN.at (R : ResN) (n : Nat) : Res := ⟨R.M, R.I n, R.b, R.st n, R.al n⟩
structure Gf where
  W : Wd
  R : ResN
  A : Addr → Prop
  H0 : Hp
def Gf.at (F : Gf) (n : Nat) : Gx := ⟨F.W, F.R.at n, F.A, F.H0⟩
section
variable {F : Gf} {an : List (PyData × V)} {O : Nat → Option Addr} {σ : L2.St} {H H' : Hp} {ρ : Ev} {n m : Nat}
theorem entOk_at {i : Nat} : ∀ {e : Ent}, EntOk (F.at n) O σ H i e → EntOk (F.at m) O σ H i e
  | .u, h => h
  | .d _, h => h
  | .o _, h => h
  | .m, h => h
  | .s _, h => h
theorem Sta.to (S : Sta (F.at n) an O σ H ρ) (i : F.R.I m H) : Sta (F.at m) an O σ H ρ :=
  ⟨i, S.kp, S.al, S.ra, S.fr, S.oi, S.ob, S.oe, S.len, fun i => entOk_at (S.en i), S.as⟩
theorem Sta.lo (S : Sta (F.at n) an O σ H ρ) (h : m ≤ n) : Sta (F.at m) an O σ H ρ := S.to (F.R.mono n m H S.inv h)
theorem Sta.kN (S : Sta (F.at n) an O σ H ρ) (h : m ≤ n) (k : Keep F.R.M H H') (i : F.R.I m H') : Sta (F.at m) an O σ H' ρ := Sta.keep (G := F.at m) (S.lo h) k i
end
def uE (F : Gf) (c : Nat) (s : Bool) (we : WE) : TE := fun σ H Q => ∃ (n : Nat) (an : List (PyData × V)) (O : Nat → Option Addr) (ρ : Ev) (Φ : PyData → Prop), c ≤ n ∧ Sta (F.at n) an O σ H ρ ∧ we ρ Φ ∧
  ∀ v H' d, Φ d → Im F.W (Nn (F.at 0) O s) H' d v → Keep F.R.M H H' → F.R.I (n - c) H' → Q v H'
def uT (F : Gf) (c : Nat) (wt : WT) : TT := fun σ H Q => ∃ (n : Nat) (an : List (PyData × V)) (O : Nat → Option Addr) (ρ : Ev) (Φ : Bool → Prop), c ≤ n ∧ Sta (F.at n) an O σ H ρ ∧ wt ρ Φ ∧
  ∀ b H', Φ b → Keep F.R.M H H' → F.R.I (n - c) H' → Q b H'
def uA (F : Gf) (c : Nat) (s : Bool) (wa : WA) : TA := fun σ H Q => ∃ (n : Nat) (an : List (PyData × V)) (O : Nat → Option Addr) (ρ : Ev) (Φ : List PyData → Prop), c ≤ n ∧ Sta (F.at n) an O σ H ρ ∧ wa ρ Φ ∧
  ∀ vs H' ds, Φ ds → ImA F.W (Nn (F.at 0) O s) H' ds vs → Keep F.R.M H H' → F.R.I (n - c) H' → Q vs H'
def uO (F : Gf) (c : Nat) (wo : WO) : TO := fun σ H Q => ∃ (n : Nat) (an : List (PyData × V)) (O : Nat → Option Addr) (ρ : Ev) (Φ : Option Int → Prop), c ≤ n ∧ Sta (F.at n) an O σ H ρ ∧ wo ρ Φ ∧
  ∀ o H', Φ o → Keep F.R.M H H' → F.R.I (n - c) H' → Q o H'
def uI (F : Gf) (c : Nat) (s : Bool) (wi : WI) : TI := fun σ H R => ∃ (n : Nat) (an : List (PyData × V)) (O : Nat → Option Addr) (ρ : Ev) (Φ : List PyData → Prop), c ≤ n ∧ Sta (F.at n) an O σ H ρ ∧ wi ρ Φ ∧
  ∀ J H' ds src, Φ ds → SrcV F.W J ds src → (∀ p ∈ src, Im F.W (Nn (F.at 0) O s) H' p.1 p.2) → Keep F.R.M H H' → F.R.I (n - c) H' → R J H'
def uF (F : Gf) (c : Nat) (wf : WF) : TE := fun σ H Q => ∃ (n : Nat) (an : List (PyData × V)) (O : Nat → Option Addr) (ρ : Ev) (Φ : List PyData → Prop), c ≤ n ∧ Sta (F.at n) an O σ H ρ ∧ wf ρ Φ ∧
  ∀ p H' ds vs, Φ ds → H p = none → H' p = some (.lst vs) → ImA F.W (fun a => Nv F.A O a ∨ a = p) H' ds vs → Keep F.R.M H H' → F.R.I (n - c) H' → Q (.ref p) H'
def uG (F : Gf) (is : List Nat) (g : WG) : TG := fun v σ H Q => ∃ n, upG (F.at n) is g v σ H fun σ' H' => Q σ' H'
section
variable {X : Cx} {F : Gf} {e a b tg : Expr} {es : List Expr} {o : Option Expr} {we wa wb wc : WE} {wr : WA} {wi : WI} {wo wl wh : WO} {wf : WF} {wt ta tb : WT} {g : WG} {is : List Nat} {s s1 s2 s3 : Bool} {c c1 c2 c3 : Nat} {pos : Pos}
theorem ne_lift (h : ∀ n, PE X e (up (F.at n) s we)) : PE X e (uE F 0 s we) := ⟨fun pins sh σ H Q I ⟨n, an, O, ρ, Φ, _, S, hw, q⟩ => (h n).run pins sh σ H Q I ⟨an, O, ρ, Φ, S, hw, fun v H' d p im k i => q v H' d p im k i⟩⟩
theorem nt_lift (h : ∀ n, PT X e (upT (F.at n) wt)) : PT X e (uT F 0 wt) := ⟨fun pins sh σ H Q I ⟨n, an, O, ρ, Φ, _, S, hw, q⟩ => (h n).run pins sh σ H Q I ⟨an, O, ρ, Φ, S, hw, fun v H' d k i => q v H' d k i⟩⟩
theorem nw_lift (h : ∀ n, PW X e (upT (F.at n) wt)) : PW X e (uT F 0 wt) := ⟨fun wh pins sh σ H Q I ⟨n, an, O, ρ, Φ, _, S, hw, q⟩ => (h n).run wh pins sh σ H Q I ⟨an, O, ρ, Φ, S, hw, fun v H' d k i => q v H' d k i⟩⟩
theorem na_lift (h : ∀ n, PA X es (upA (F.at n) s wr)) : PA X es (uA F 0 s wr) := ⟨fun pos pins sh σ H Q I ⟨n, an, O, ρ, Φ, _, S, hw, q⟩ => (h n).run pos pins sh σ H Q I ⟨an, O, ρ, Φ, S, hw, fun v H' d p im k i => q v H' d p im k i⟩⟩
theorem no_lift (h : ∀ n, PO X o (upO (F.at n) wo)) : PO X o (uO F 0 wo) := ⟨fun pins sh σ H Q I ⟨n, an, O, ρ, Φ, _, S, hw, q⟩ => (h n).run pins sh σ H Q I ⟨an, O, ρ, Φ, S, hw, fun v H' d k i => q v H' d k i⟩⟩
theorem ni_lift (h : ∀ n, PI X tg e (upI (F.at n) s wi)) : PI X tg e (uI F 0 s wi) := ⟨fun pins sh σ H Q I ⟨n, an, O, ρ, Φ, _, S, hw, q⟩ => (h n).run pins sh σ H Q I ⟨an, O, ρ, Φ, S, hw, fun J H' ds src h1 sv im k i => q J H' ds src h1 sv im k i⟩⟩
theorem nf_lift (h : ∀ n, PE X e (upF (F.at n) wf)) : PE X e (uF F 0 wf) := ⟨fun pins sh σ H Q I ⟨n, an, O, ρ, Φ, _, S, hw, q⟩ => (h n).run pins sh σ H Q I ⟨an, O, ρ, Φ, S, hw, fun p H' ds vs h1 h2 h3 im k i => q p H' ds vs h1 h2 h3 im k i⟩⟩
theorem ng_lift (h : ∀ n, PG X tg (upG (F.at n) is g)) : PG X tg (uG F is g) := ⟨fun pins sh σ H v u Q I r ⟨n, q⟩ => (h n).run pins sh σ H v u Q I r q⟩
theorem ne_loose (h : PE X e (uE F c s we)) : PE X e (uE F c false we) := pe_weak h fun σ H Q ⟨n, an, O, ρ, Φ, hc, S, hw, q⟩ => ⟨n, an, O, ρ, Φ, hc, S, hw, fun v H' d p im k i => q v H' d p (loose (G := F.at 0) im) k i⟩
theorem uE_op {r : R2} {f : PyData → PyData → (PyData → Prop) → Prop} (hf : ∀ n, OpD (F.at n) s s1 s2 r f) (σ : L2.St) (H : Hp) (Q : VK) (h : uE F (c1 + c2) s (wOp f wa wb) σ H Q) : tOp r (uE F c1 s1 wa) (uE F c2 s2 wb) σ H Q := by
  obtain ⟨n, an, O, ρ, Φ, hc, S, h, q⟩ := h
  refine ⟨n, an, O, ρ, _, by omega, S, h, fun v H1 d h1 im k1 i1 => ?_⟩
  have S1 := S.kN (Nat.sub_le n c1) k1 i1
  refine ⟨n - c1, an, O, ρ, _, by omega, S1, h1, fun v2 H2 d2 h2 im2 k2 i2 => ?_⟩
  have S2 := S1.kN (Nat.sub_le _ c2) k2 i2
  refine hf (n - c1 - c2) an O σ ρ H2 v v2 d d2 Φ Q S2 (Sta.im (G := F.at (n - c1)) (S1) k2 im) im2 h2 fun w H3 z hz imz k3 i3 => q w H3 z hz imz ((k1.trans k2).trans k3) ?_
  rw [← Nat.sub_sub]
  exact i3
theorem ne_op {op : Operator} {r : R2} {f : PyData → PyData → (PyData → Prop) → Prop} (ho : OpR X (binaryOp op) r) (hf : ∀ n, OpD (F.at n) s s1 s2 r f) (ha : PE X a (uE F c1 s1 wa)) (hb : PE X b (uE F c2 s2 wb)) :
    PE X (.BinOp a op b pos) (uE F (c1 + c2) s (wOp f wa wb)) := pe_weak (pe_op ho ha hb) (uE_op hf)
theorem ne_cmp {op : CmpOp} {r : R2} {f : PyData → PyData → (PyData → Prop) → Prop} (ho : OpR X (compareOp op) r) (hf : ∀ n, OpD (F.at n) s s1 s2 r f) (ha : PE X a (uE F c1 s1 wa)) (hb : PE X b (uE F c2 s2 wb)) (hm : behindInMarks op b = false) :
    PE X (.Compare a [op] [b] pos) (uE F (c1 + c2) s (wOp f wa wb)) := pe_weak (pe_cmpR ho ha hb hm) (uE_op hf)
theorem uE_test (σ : L2.St) (H : Hp) (Q : Bool → Hp → Prop) (h : uT F c (wTest we) σ H Q) : tTest (uE F c s we) σ H Q := by
  obtain ⟨n, an, O, ρ, Φ, hc, S, h, q⟩ := h
  refine ⟨n, an, O, ρ, _, hc, S, h, fun v H1 d h1 im k1 i1 => ?_⟩
  cases d with
  | bool b => exact ⟨b, im, q b H1 h1 k1 i1⟩
  | _ => exact h1.elim
theorem nt_cmp {op : CmpOp} {r : R2} {f : PyData → PyData → (PyData → Prop) → Prop} (ho : OpR X (compareOp op) r) (hf : ∀ n, OpD (F.at n) true s1 s2 r f) (ha : PE X a (uE F c1 s1 wa)) (hb : PE X b (uE F c2 s2 wb)) (hm : behindInMarks op b = false) :
    PT X (.Compare a [op] [b] pos) (uT F (c1 + c2) (wTest (wOp f wa wb))) := by
  refine pt_weak (pt_cmpR ho ha hb hm) fun σ H Q h => ?_
  obtain ⟨n, an, O, ρ, Φ, hc, S, h, q⟩ := uE_test (s := true) σ H Q h
  exact uE_op hf σ H _ ⟨n, an, O, ρ, Φ, hc, S, h, fun v H' d p im k i => q v H' d p im k i⟩
theorem nt_val (h : PE X e (uE F c s we)) (he : ∀ whole, isTrue e X.env whole = (do let v ← whole; standAt e.pos; holding [v] (truthy v)) := by intro _; rfl) : PT X e (uT F c (wTest we)) :=
  pt_weak (pt_val h he) fun σ H Q h => by
    obtain ⟨n, an, O, ρ, Φ, hc, S, h, q⟩ := uE_test (s := s) σ H Q h
    exact ⟨n, an, O, ρ, Φ, hc, S, h, q⟩
theorem na_cons (ha : PE X e (uE F c1 s wa)) (hr : PA X es (uA F c2 s wr)) (hs : starEach (e :: es) X.env = (false, eval e X.env) :: starEach es X.env := by rfl) : PA X (e :: es) (uA F (c1 + c2) s (wCons wa wr)) :=
  pa_weak (pa_cons ha hr hs) fun σ H Q ⟨n, an, O, ρ, Φ, hc, S, h, q⟩ => by
    refine ⟨n, an, O, ρ, _, by omega, S, h, fun v H1 d h1 im k1 i1 => ?_⟩
    have S1 := S.kN (Nat.sub_le n c1) k1 i1
    refine ⟨n - c1, an, O, ρ, _, by omega, S1, h1, fun vs H2 ds h2 im2 k2 i2 => ?_⟩
    exact q (v :: vs) H2 (d :: ds) h2 ⟨v, vs, rfl, Sta.im (G := F.at (n - c1)) S1 k2 im, im2⟩ (k1.trans k2) (by rw [← Nat.sub_sub]; exact i2)
theorem ne_tup {x1} (h : PA X es (uA F c s wr)) : PE X (.Tuple es x1 pos) (uE F c s (wTup wr)) := pe_weak (pe_tup h) fun σ H Q ⟨n, an, O, ρ, Φ, hc, S, h, q⟩ => by
  refine ⟨n, an, O, ρ, _, hc, S, h, fun vs H1 ds h1 im k1 i1 => ?_⟩
  refine ⟨line5 (by rw [ImA.length im]; exact h1.1), fun p hp => ?_⟩
  have S1 := S.kN (Nat.sub_le n c) k1 i1
  exact q _ _ _ h1.2 (S1.tup hp im) (k1.trans (Keep.new hp)) (S1.newI hp)
theorem ne_lst (h : PA X es (uA F c s wr)) : PE X (.List es pos) (uE F c s (wLst wr)) := pe_weak (pe_lst h) fun σ H Q ⟨n, an, O, ρ, Φ, hc, S, h, q⟩ => by
  refine ⟨n, an, O, ρ, _, hc, S, h, fun vs H1 ds h1 im k1 i1 => ?_⟩
  refine ⟨line5 (by rw [ImA.length im]; exact h1.1), fun p hp => ?_⟩
  have S1 := S.kN (Nat.sub_le n c) k1 i1
  exact q _ _ _ h1.2 (S1.lst hp im) (k1.trans (Keep.new hp)) (S1.newI hp)
theorem ne_ix (hK : X.K = F.W.K) (ha : PE X a (uE F c1 s wa)) (hb : PE X b (uE F c2 s2 wb)) (hs : PlainIx b) : PE X (.Subscript a b pos) (uE F (c1 + c2) s (wOp fIx wa wb)) :=
  pe_weak (pe_ix ix_seq ha hb hs) (by rw [hK]; exact uE_op fun n => od_ix (G := F.at n))
theorem no_none : PO X none (uO F 0 wNo) := no_lift fun _ => do_none
theorem no_some (h : PE X e (uE F c s we)) : PO X (some e) (uO F c (wPart we)) := ⟨fun pins sh σ H Q I ⟨n, an, O, ρ, Φ, hc, S, hw, q⟩ => by
  refine (po_some h).run pins sh σ H Q I ⟨n, an, O, ρ, _, hc, S, hw, fun v H1 d h1 im k1 i1 => ?_⟩
  cases d with
  | int i => exact ⟨i, im, q _ H1 h1 k1 i1⟩
  | _ => exact h1.elim⟩
theorem ne_sl {p2 : Pos} {lo hi : Option Expr} (hK : X.K = F.W.K) (he : PE X e (uE F c1 s we)) (hl : PO X lo (uO F c2 wl)) (hh : PO X hi (uO F c3 wh)) : PE X (.Subscript e (.Slice lo hi none p2) pos) (uE F (c1 + c2 + c3) s (wSl we wl wh)) :=
  pe_weak (pe_slice sl_U he hl hh) fun σ H Q ⟨n, an, O, ρ, Φ, hc, S, h, q⟩ => by
    refine ⟨n, an, O, ρ, _, by omega, S, h, fun v H1 d h1 im k1 i1 => ?_⟩
    have S1 := S.kN (Nat.sub_le n c1) k1 i1
    refine ⟨n - c1, an, O, ρ, _, by omega, S1, h1, fun lo H2 h2 k2 i2 => ?_⟩
    have S2 := S1.kN (Nat.sub_le _ c2) k2 i2
    refine ⟨n - c1 - c2, an, O, ρ, _, by omega, S2, h2, fun hi H3 h3 k3 i3 => ?_⟩
    have S3 := S2.kN (Nat.sub_le _ c3) k3 i3
    have im3 := Sta.im (G := F.at (n - c1 - c2)) S2 k3 (Sta.im (G := F.at (n - c1)) S1 k2 im)
    have kk := (k1.trans k2).trans k3
    have en : n - c1 - c2 - c3 = n - (c1 + c2 + c3) := by omega
    rw [en] at i3 S3
    rw [hK]
    unfold fSl at h3
    split at h3
    · obtain ⟨a, xs, rfl, r, n, m⟩ := im3
      exact .inl ⟨a, xs, rfl, .inl (.inl r), fun p hp => q _ _ _ h3 (S3.lst hp (ImA.cut m _ _)) (kk.trans (Keep.new hp)) (S3.newI hp)⟩
    · rename_i ds
      have im4 := im3
      obtain ⟨a, xs, rfl, r, m⟩ := im3
      refine .inr (.inl ⟨a, xs, rfl, r, fun w => ?_, fun w p hp => q _ _ _ h3 (S3.tup hp (ImA.cut m _ _)) (kk.trans (Keep.new hp)) (S3.newI hp)⟩)
      rw [ImA.length m] at w
      rw [cut_whole w] at h3
      exact q _ H3 _ h3 im4 kk i3
    · exact .inr (.inr ⟨_, im3, line5 h3.1, q _ H3 _ h3.2 rfl kk i3⟩)
    · exact h3.elim
variable {rest : List Expr}
theorem ne_one {op} (h : PE X a (uE F c s wa)) : PE X (.BoolOp op [a] pos) (uE F c s wa) := pe_one h
theorem ne_and (ha : PE X a (uE F c1 s wa)) (hb : PE X (.BoolOp .And (b :: rest) pos) (uE F c2 s wb)) : PE X (.BoolOp .And (a :: b :: rest) pos) (uE F (c1 + c2) s (wAndV wa wb)) := pe_weak (pe_and ha hb) fun σ H Q ⟨n, an, O, ρ, Φ, hc, S, h, q⟩ => by
  refine ⟨n, an, O, ρ, _, by omega, S, h, fun v H1 d h1 im k1 i1 => ?_⟩
  cases d with
  | bool c =>
    refine ⟨c, im, ?_⟩
    cases c with
    | true =>
      dsimp only at h1
      rw [if_pos rfl] at h1 ⊢
      exact ⟨n - c1, an, O, ρ, Φ, by omega, S.kN (Nat.sub_le _ _) k1 i1, h1, fun v2 H2 d2 p2 m2 k2 i2 => q v2 H2 d2 p2 m2 (k1.trans k2) (by rw [← Nat.sub_sub]; exact i2)⟩
    | false =>
      dsimp only at h1
      rw [if_neg Bool.false_ne_true] at h1 ⊢
      exact q _ H1 _ h1 rfl k1 (F.R.mono _ _ _ i1 (by omega))
  | _ => exact h1.elim
theorem ne_or (ha : PE X a (uE F c1 s wa)) (hb : PE X (.BoolOp .Or (b :: rest) pos) (uE F c2 s wb)) : PE X (.BoolOp .Or (a :: b :: rest) pos) (uE F (c1 + c2) s (wOrV wa wb)) := pe_weak (pe_or ha hb) fun σ H Q ⟨n, an, O, ρ, Φ, hc, S, h, q⟩ => by
  refine ⟨n, an, O, ρ, _, by omega, S, h, fun v H1 d h1 im k1 i1 => ?_⟩
  cases d with
  | bool c =>
    refine ⟨c, im, ?_⟩
    cases c with
    | true =>
      dsimp only at h1
      rw [if_pos rfl] at h1 ⊢
      exact q _ H1 _ h1 rfl k1 (F.R.mono _ _ _ i1 (by omega))
    | false =>
      dsimp only at h1
      rw [if_neg Bool.false_ne_true] at h1 ⊢
      exact ⟨n - c1, an, O, ρ, Φ, by omega, S.kN (Nat.sub_le _ _) k1 i1, h1, fun v2 H2 d2 p2 m2 k2 i2 => q v2 H2 d2 p2 m2 (k1.trans k2) (by rw [← Nat.sub_sub]; exact i2)⟩
  | _ => exact h1.elim
theorem ne_not (ha : PE X a (uE F c s wa)) : PE X (.UnaryOp .Not a pos) (uE F c s (wNotV wa)) := pe_weak (pe_not ha) fun σ H Q ⟨n, an, O, ρ, Φ, hc, S, h, q⟩ => by
  refine ⟨n, an, O, ρ, _, hc, S, h, fun v H1 d h1 im k1 i1 => ?_⟩
  cases d with
  | bool c => exact ⟨c, im, q _ H1 _ h1 rfl k1 i1⟩
  | _ => exact h1.elim
theorem ne_neg (ha : PE X a (uE F c s wa)) : PE X (.UnaryOp .USub a pos) (uE F c s (wNeg wa)) := pe_weak (pe_un un_neg ha) fun σ H Q ⟨n, an, O, ρ, Φ, hc, S, h, q⟩ => by
  refine ⟨n, an, O, ρ, _, hc, S, h, fun v H1 d h1 im k1 i1 => ?_⟩
  cases d with
  | int c => exact ⟨c, im, q _ H1 _ h1 rfl k1 i1⟩
  | _ => exact h1.elim
theorem nt_not (ha : PT X a (uT F c ta)) : PT X (.UnaryOp .Not a pos) (uT F c (wNot ta)) := pt_weak (pt_not ha) fun σ H Q ⟨n, an, O, ρ, Φ, hc, S, h, q⟩ =>
  ⟨n, an, O, ρ, _, hc, S, h, fun b H1 h1 k1 i1 => q _ H1 h1 k1 i1⟩
theorem nw_and1 (ha : PT X a (uT F c ta)) : PW X (.BoolOp .And [a] pos) (uT F c ta) := pw_and1 ha
theorem nw_or1 (ha : PT X a (uT F c ta)) : PW X (.BoolOp .Or [a] pos) (uT F c ta) := pw_or1 ha
theorem nw_and (ha : PT X a (uT F c1 ta)) (hb : PW X (.BoolOp .And (b :: rest) pos) (uT F c2 tb)) : PW X (.BoolOp .And (a :: b :: rest) pos) (uT F (c1 + c2) (wAnd ta tb)) := pw_weak (pw_and ha hb) fun σ H Q ⟨n, an, O, ρ, Φ, hc, S, h, q⟩ => by
  refine ⟨n, an, O, ρ, _, by omega, S, h, fun c H1 h1 k1 i1 => ?_⟩
  cases c with
  | true =>
    rw [if_pos rfl] at h1 ⊢
    exact ⟨n - c1, an, O, ρ, Φ, by omega, S.kN (Nat.sub_le _ _) k1 i1, h1, fun b2 H2 p2 k2 i2 => q b2 H2 p2 (k1.trans k2) (by rw [← Nat.sub_sub]; exact i2)⟩
  | false =>
    rw [if_neg Bool.false_ne_true] at h1 ⊢
    exact q _ H1 h1 k1 (F.R.mono _ _ _ i1 (by omega))
theorem nw_or (ha : PT X a (uT F c1 ta)) (hb : PW X (.BoolOp .Or (b :: rest) pos) (uT F c2 tb)) : PW X (.BoolOp .Or (a :: b :: rest) pos) (uT F (c1 + c2) (wOr ta tb)) := pw_weak (pw_or ha hb) fun σ H Q ⟨n, an, O, ρ, Φ, hc, S, h, q⟩ => by
  refine ⟨n, an, O, ρ, _, by omega, S, h, fun c H1 h1 k1 i1 => ?_⟩
  cases c with
  | true =>
    rw [if_pos rfl] at h1 ⊢
    exact q _ H1 h1 k1 (F.R.mono _ _ _ i1 (by omega))
  | false =>
    rw [if_neg Bool.false_ne_true] at h1 ⊢
    exact ⟨n - c1, an, O, ρ, Φ, by omega, S.kN (Nat.sub_le _ _) k1 i1, h1, fun b2 H2 p2 k2 i2 => q b2 H2 p2 (k1.trans k2) (by rw [← Nat.sub_sub]; exact i2)⟩
theorem nt_pw (h : PW X e (uT F c wt)) : PT X e (uT F c wt) := h.pt
theorem ne_ife {ce : Expr} (hc : PT X ce (uT F c1 ta)) (ha : PE X a (uE F c2 s wa)) (hb : PE X b (uE F c3 s wb)) : PE X (.IfExp ce a b pos) (uE F (c1 + (c2 + c3)) s (wIfE ta wa wb)) := pe_weak (pe_ifExp hc ha hb) fun σ H Q ⟨n, an, O, ρ, Φ, hc, S, h, q⟩ => by
  refine ⟨n, an, O, ρ, _, by omega, S, h, fun c H1 h1 k1 i1 => ?_⟩
  cases c with
  | true =>
    rw [if_pos rfl] at h1 ⊢
    exact ⟨n - c1, an, O, ρ, Φ, by omega, S.kN (Nat.sub_le _ _) k1 i1, h1, fun v2 H2 d2 p2 m2 k2 i2 => q v2 H2 d2 p2 m2 (k1.trans k2) (F.R.mono _ _ _ i2 (by omega))⟩
  | false =>
    rw [if_neg Bool.false_ne_true] at h1 ⊢
    exact ⟨n - c1, an, O, ρ, Φ, by omega, S.kN (Nat.sub_le _ _) k1 i1, h1, fun v2 H2 d2 p2 m2 k2 i2 => q v2 H2 d2 p2 m2 (k1.trans k2) (F.R.mono _ _ _ i2 (by omega))⟩
theorem uE_call {r : List V → Hp → VK → Prop} {f : List PyData → (PyData → Prop) → Prop} (hf : ∀ n, CallD (F.at n) s s1 r f) (σ : L2.St) (H : Hp) (Q : VK) (h : uE F c s (wCall f wr) σ H Q) : tCB r (uA F c s1 wr) σ H Q := by
  obtain ⟨n, an, O, ρ, Φ, hc, S, h, q⟩ := h
  refine ⟨n, an, O, ρ, _, hc, S, h, fun vs H1 ds h1 im k1 i1 => ?_⟩
  exact hf (n - c) an O σ ρ H1 vs ds Φ Q (S.kN (Nat.sub_le _ _) k1 i1) im h1 fun w H3 z hz imz k3 i3 => q w H3 z hz imz (k1.trans k3) i3
theorem ne_callB {x : Str} {p : Pos} {id : String} {r : List V → Hp → VK → Prop} {f : List PyData → (PyData → Prop) → Prop} (hc : CallR X (.builtin id) r) (hf : ∀ n, CallD (F.at n) s s1 r f) (hg : Gl X x) (hm : X.mg x = none) (hv : bootBuiltins x = some (.builtin id)) (ha : PA X (e :: es) (uA F c s1 wr))
    (hn : x ≠ "__name__" := by decide) (hdb : (x == ("__debug__" : Str)) = false := by decide) (he : starEach (e :: es) X.env = (false, eval e X.env) :: starEach es X.env := by rfl) (hpl : (backTo pos (starEach es X.env)).any (·.1) = false := by rfl) :
    PE X (.Call (.Name x p) (e :: es) [] pos) (uE F c s (wCall f wr)) := pe_weak (pe_callB hc hg hm hv ha hn hdb he hpl) (uE_call hf)
theorem ne_callT {x : Str} {p : Pos} {T : String} {r : List V → Hp → VK → Prop} {f : List PyData → (PyData → Prop) → Prop} (hc : CallR X (.type T) r) (hf : ∀ n, CallD (F.at n) s s1 r f) (hg : Gl X x) (hm : X.mg x = none) (hv : bootBuiltins x = some (.type T)) (ha : PA X (e :: es) (uA F c s1 wr))
    (hn : x ≠ "__name__" := by decide) (hdb : (x == ("__debug__" : Str)) = false := by decide) (he : starEach (e :: es) X.env = (false, eval e X.env) :: starEach es X.env := by rfl) (hpl : (backTo pos (starEach es X.env)).any (·.1) = false := by rfl) :
    PE X (.Call (.Name x p) (e :: es) [] pos) (uE F c s (wCall f wr)) := pe_weak (pe_callTy hc hg hm hv ha hn hdb he hpl) (uE_call hf)
theorem ne_callG {x : Str} {p : Pos} {id : String} {r : List V → Hp → VK → Prop} {f : List PyData → (PyData → Prop) → Prop} (hc : CallR X (.builtin id) r) (hf : ∀ n, CallD (F.at n) s s1 r f) (hg : Gl X x) (hm : X.mg x = some (.builtin id)) (ha : PA X (e :: es) (uA F c s1 wr))
    (hdb : (x == ("__debug__" : Str)) = false := by decide) (he : starEach (e :: es) X.env = (false, eval e X.env) :: starEach es X.env := by rfl) (hpl : (backTo pos (starEach es X.env)).any (·.1) = false := by rfl) :
    PE X (.Call (.Name x p) (e :: es) [] pos) (uE F c s (wCall f wr)) := pe_weak (pe_callBfun hc hg hm ha hdb he hpl) (uE_call hf)
theorem ni_list (hK : X.K = F.W.K) (h : PE X e (uE F c s we)) : PI X tg e (uI F c s (wListI we)) := pi_weak (pi_list h) fun σ H R ⟨n, an, O, ρ, Φ, hc, S, hw, q⟩ => by
  rw [hK]
  refine ⟨n, an, O, ρ, _, hc, S, hw, fun v H1 d h1 im k1 i1 => ?_⟩
  cases d with
  | list ds =>
    obtain ⟨a, xs, rfl, r, n, m⟩ := id im
    refine ⟨a, rfl, ⟨xs, .inl (.inl r)⟩, q _ H1 ds _ h1 (src_list rfl) (fun p hp => ?_) k1 i1⟩
    rw [List.mem_singleton.mp hp]
    exact im
  | _ => exact h1.elim
theorem ni_tup (hK : X.K = F.W.K) (h : PE X e (uE F c s we)) : PI X tg e (uI F c s (wTupI we)) := pi_weak (pi_tup h) fun σ H R ⟨n, an, O, ρ, Φ, hc, S, hw, q⟩ => by
  rw [hK]
  refine ⟨n, an, O, ρ, _, hc, S, hw, fun v H1 d h1 im k1 i1 => ?_⟩
  cases d with
  | tuple ds =>
    obtain ⟨a, xs, rfl, r, m⟩ := id im
    refine ⟨a, rfl, ⟨xs, r⟩, q _ H1 ds _ h1 (src_tup rfl) (fun p hp => ?_) k1 i1⟩
    rw [List.mem_singleton.mp hp]
    exact im
  | _ => exact h1.elim
theorem ni_rng1 {p : Pos} (hg : Gl X "range") (hm : X.mg "range" = none) (ha : PA X [a] (uA F c s1 wr)) (hs : starEach [a] X.env = [(false, eval a X.env)] := by rfl) :
    PI X tg (.Call (.Name "range" p) [a] [] pos) (uI F c s (wRng1 wr)) :=
  pi_weak (pi_range1 hg hm ha hs) fun σ H R ⟨n, an, O, ρ, Φ, hc, S, h, q⟩ => by
    refine ⟨n, an, O, ρ, _, hc, S, h, fun vs H1 ds h1 im k1 i1 => ?_⟩
    split at h1
    · rename_i j
      obtain ⟨v, rfl, iv⟩ := im1 im
      obtain rfl : v = .int j := iv
      exact ⟨j, rfl, by omega, by omega, q _ H1 _ [] h1.2.2 src_rng (fun p hp => nomatch hp) k1 i1⟩
    · exact h1.elim
theorem uE_fv (σ : L2.St) (H : Hp) (Q : VK) (h : uE F c true (wFv wf) σ H Q) : uF F c wf σ H Q := by
  obtain ⟨n, an, O, ρ, Φ, hc, S, hw, q⟩ := h
  refine ⟨n, an, O, ρ, _, hc, S, hw, fun p H' ds vs h1 hp hH im k i => q _ H' _ h1 ⟨p, vs, rfl, hH, fun z => ?_, ImA.avoid (fun a o _ z => .inl z) _ _ im⟩ k i⟩
  exact S.fresh (s := true) hp z
theorem ne_fv (h : PE X e (uF F c wf)) : PE X e (uE F c true (wFv wf)) := pe_weak h uE_fv
theorem nf_lst (h : PA X es (uA F c true wr)) : PE X (.List es pos) (uF F c (wFl wr)) := pe_weak (pe_lst h) fun σ H Q ⟨n, an, O, ρ, Φ, hc, S, h, q⟩ => by
  refine ⟨n, an, O, ρ, _, hc, S, h, fun vs H1 ds h1 im k1 i1 => ⟨line5 (by rw [ImA.length im]; exact h1.1), fun p hp => ?_⟩⟩
  have S1 := S.kN (Nat.sub_le _ c) k1 i1
  have hp0 : H p = none := S1.back k1 hp
  refine q p _ ds vs h1.2 hp0 upd_same ?_ (k1.trans (Keep.new hp)) (S1.newI hp)
  exact ImA.keep (Keep.new hp) _ _ (ImA.avoid (fun a o e z => z.elim id fun z => by rw [z, hp] at e; cases e) _ _ im)
end
end DL

namespace DL
open PySem PySem.Spec PyProof.Rows L2

theorem bud {n ci K cc i : Nat} (h : ci + K * cc ≤ n) (hi : i < K) : cc ≤ n - ci - i * cc ∧ n - ci - i * cc - cc = n - ci - (i + 1) * cc := by
  have h1 : (i + 1) * cc ≤ K * cc := Nat.mul_le_mul_right _ hi
  rw [Nat.succ_mul] at h1 ⊢
  omega
theorem budE {n ci K cc i : Nat} (h : ci + K * cc ≤ n) (hi : i ≤ K) : n - (ci + K * cc) ≤ n - ci - i * cc := by
  have h1 : i * cc ≤ K * cc := Nat.mul_le_mul_right _ hi
  omega
section
variable {X : Cx} {F : Gf} {pos spos : Pos} {s s1 s2 : Bool} {e e2 a b tg iter elt : Expr} {es ifs : List Expr} {we wk : WE} {wr : WA} {wi : WI} {g : WG} {wt : WT} {wf : WF} {is : List Nat} {scope : Scope} {own : List (Str × Nat)} {ci ct ce c c1 c2 : Nat}
theorem nts_lift (h : ∀ n, PTs X ifs (upT (F.at n) wt)) : PTs X ifs (uT F 0 wt) := ⟨fun pins sh σ H Q I ⟨n, an, O, ρ, Φ, _, S, hw, q⟩ => (h n).run pins sh σ H Q I ⟨an, O, ρ, Φ, S, hw, fun v H' d k i => q v H' d k i⟩⟩
theorem nts_one (h : PT X a (uT F c wt)) : PTs X [a] (uT F c wt) := pts_one h
def wLcN (K : Nat) (wi : WI) (g : WG) (wt : WT) (we : WE) (vs : List Nat) : WF := fun ρ Φ => noOwn ρ vs = true ∧ wi ρ fun ds => ds.length ≤ K ∧ ∃ J : Nat → List PyData → Prop, J 0 [] ∧
  (∀ (i : Nat) (d : PyData) (acc : List PyData), ds[i]? = some d → J i acc → acc.length ≤ 100000 → g d (wipeE ρ vs) fun ρ2 => wt ρ2 fun b => if b = true then we ρ2 fun y => acc.length < 100000 ∧ J (i + 1) (acc ++ [y]) else J (i + 1) acc) ∧ ∀ acc, J ds.length acc → Φ acc
theorem uF_lc {K : Nat} {vs : List Nat} (hv : ∀ i ∈ is, i ∈ vs) (σ : L2.St) (H : Hp) (Q : VK) (h : uF F (ci + K * (ct + ce)) (wLcN K wi g wt we vs) σ H Q) : tLc (uI F ci true wi) (uG F is g) (uT F ct wt) (uE F ce true we) vs σ H Q := by
  obtain ⟨n, an, O, ρ, Φ, hc, S, ⟨hno, h⟩, q⟩ := h
  have hno := noOwn_at hno
  refine ⟨n, an, O, ρ, _, by omega, S, h, fun J H1 ds src h1 sv im k1 i1 D hD => ?_⟩
  obtain ⟨hK, JJ, j0, jt, je⟩ := h1
  have S1 := Sta.ana (S.kN (Nat.sub_le n ci) k1 i1) im
  have hD0 : H D = none := S1.back k1 hD
  obtain ⟨bd, hbd⟩ := S1.ob
  have hj : ρ.length ≤ max bd ρ.length := Nat.le_max_right _ _
  have start := S1.own (H' := upd H1 D (.lst [])) hD upd_same (Keep.new hD) (S1.newI hD) (max bd ρ.length) hj
  generalize hO2 : setO O (max bd ρ.length) (some D) = O2 at start
  have oD : O2 (max bd ρ.length) = some D := by rw [← hO2]; exact setO_same
  have nvD' : ∀ a, Nv F.A O a ∨ a = D → Nv F.A O2 a := fun a z => by
    rcases z with (z | ⟨i, z⟩) | z
    · exact .inl z
    · by_cases y : i = max bd ρ.length
      · rw [y, hbd _ (Nat.le_max_left _ _)] at z; cases z
      · exact .inr ⟨i, by rw [← hO2, setO_ne y]; exact z⟩
    · rw [z]; exact .inr ⟨_, oD⟩
  have kD : Keep F.R.M H1 (upd H1 D (.lst [])) := Keep.new hD
  refine ⟨fun i m H' => i + m = ds.length ∧ ∃ acc ws, JJ i acc ∧ acc.length ≤ 100000 ∧ H' D = some (.lst ws) ∧ ImA F.W (Nv F.A O2) H' acc ws ∧ Sta (F.at (n - ci - i * (ct + ce))) (src ++ an) O2 σ H' ρ ∧ (∀ a o, a ≠ D → H1 a = some o → ¬ F.R.M a → H' a = some o) ∧ (∀ a xs, H1 a = some (.tup xs) → H' a = some (.tup xs)) ∧ (∀ a o u, H1 a = some (.frz o u) → H' a = some (.frz o u)),
    ⟨ds.length, by omega, [], [], j0, Nat.zero_le _, upd_same, rfl, by rw [Nat.zero_mul]; exact start, fun a o n e _ => by rw [upd_ne n]; exact e, fun a xs e => kD.tp a xs e, fun a o u e => kD.fz a o u e⟩, ?_⟩
  rintro i m H2 ⟨hm, acc, ws, ja, hl, eD, ia, S2, c1, c2, c3⟩
  have sv2 := sv (Nv F.A O2) H2 i fun p hp => S2.as p (List.mem_append_left _ hp)
  by_cases hlt : i < ds.length
  · obtain ⟨go, yl⟩ := sv2.1 hlt
    obtain ⟨b1, b2⟩ := bud hc (Nat.lt_of_lt_of_le hlt hK)
    generalize hni : n - ci - i * (ct + ce) = ni at S2 b1 b2
    refine .inr ⟨go, fun H' => ∃ acc ws, JJ (i + 1) acc ∧ acc.length ≤ 100000 ∧ H' D = some (.lst ws) ∧ ImA F.W (Nv F.A O2) H' acc ws ∧ Sta (F.at (n - ci - (i + 1) * (ct + ce))) (src ++ an) O2 σ H' ρ ∧ (∀ a o, a ≠ D → H1 a = some o → ¬ F.R.M a → H' a = some o) ∧ (∀ a xs, H1 a = some (.tup xs) → H' a = some (.tup xs)) ∧ (∀ a o u, H1 a = some (.frz o u) → H' a = some (.frz o u)), fun H' hN => ⟨m - 1, by omega, by omega, hN⟩, fun x H3 y => ?_⟩
    obtain ⟨k3, iv⟩ := yl x H3 y
    have hd : ds[i]? = some ds[i] := List.getElem?_eq_getElem hlt
    have S3 := S2.keep (Keep.none k3) (stK_of S2.inv k3)
    have dM : ¬ F.R.M D := S2.nM oD
    have go_on : ∀ {H4 : Hp}, Keep F.R.M H2 H4 → F.R.I (ni - ct) H4 → JJ (i + 1) acc → ∃ acc ws, JJ (i + 1) acc ∧ acc.length ≤ 100000 ∧ H4 D = some (.lst ws) ∧ ImA F.W (Nv F.A O2) H4 acc ws ∧ Sta (F.at (n - ci - (i + 1) * (ct + ce))) (src ++ an) O2 σ H4 ρ ∧ (∀ a o, a ≠ D → H1 a = some o → ¬ F.R.M a → H4 a = some o) ∧ (∀ a xs, H1 a = some (.tup xs) → H4 a = some (.tup xs)) ∧ (∀ a o u, H1 a = some (.frz o u) → H4 a = some (.frz o u)) := fun {H4} k4 i4 j4 =>
      ⟨acc, ws, j4, hl, k4.ob D _ eD dM, ImA.keep (k4.mono fun a m => .inl (S2.ra a m)) _ _ ia, by
        rw [← b2]; exact (S2.kN (Nat.sub_le _ _) k4 (F.R.mono _ _ _ i4 (by omega))), fun a o n e m => k4.ob a o (c1 a o n e m) m, fun a xs e => k4.tp a xs (c2 a xs e), fun a o u e => k4.fz a o u (c3 a o u e)⟩
    refine ⟨ni, src ++ an, O2, wipeE ρ vs, ds[i], _, S3.wipe vs fun v hv => (hno v hv).2, iv _ hd, jt i _ acc hd ja hl, fun O4 σ4 ρ4 S4 h4 w4 x4 => ?_⟩
    refine ⟨?_, ni, src ++ an, O4, ρ4, _, by omega, S4, h4, fun b H5 hb k5 i5 => ?_⟩
    · rw [w4 vs hv]
      exact wipe_sub σ vs vs fun _ h => h
    · have k25 := (Keep.none (M := F.R.M) k3).trans k5
      cases b with
      | false =>
        rw [if_neg Bool.false_ne_true] at hb
        show (if false = true then _ else _)
        rw [if_neg Bool.false_ne_true]
        exact go_on k25 i5 hb
      | true =>
        rw [if_pos rfl] at hb
        show (if true = true then _ else _)
        rw [if_pos rfl]
        refine ⟨ni - ct, src ++ an, O4, ρ4, _, by omega, S4.kN (Nat.sub_le _ _) k5 i5, hb, fun y H6 d6 h6 im6 k6 i6 => ?_⟩
        have k26 := k25.trans k6
        have eD6 := k26.ob D _ eD dM
        refine ⟨ws, eD6, ?_, ?_⟩
        · rw [ImA.length ia]; exact Nat.lt_of_lt_of_le h6.1 (by decide)
        · have sub : ∀ a, Nv F.A O2 a → Nv F.A O4 a := fun a z => by
            rcases z with z | ⟨l, z⟩
            · exact .inl z
            · rcases x4 l a z with y | y
              · obtain ⟨y1, y2⟩ := hno l (hv l y)
                rcases S2.oe l a z with w | ⟨ds, w⟩
                · omega
                · exact absurd w (y2 ds)
              · exact .inr ⟨l, y⟩
          have im7 : Im F.W (Nv F.A O2) H6 d6 y := Im.avoid (fun a o _ z => sub a z) _ _ im6
          have S6 : Sta (F.at (n - ci - (i + 1) * (ct + ce))) (src ++ an) O2 σ H6 ρ := by
            rw [← b2, Nat.sub_add_eq]; exact S2.kN (by omega) k26 i6
          have ia6 := ImA.keep (k26.mono fun a m => .inl (S2.ra a m)) _ _ ia
          have kD6 : Keep (Nv F.A O2) H6 (upd H6 D (.lst (ws ++ [y]))) := Keep.set eD6 (.inr ⟨_, oD⟩)
          refine ⟨acc ++ [d6], ws ++ [y], h6.2, by rw [List.length_append]; exact h6.1, upd_same, ?_, S6.chgP hj oD eD6, fun a o n e m => ?_, fun a xs e => ?_, fun a o u e => ?_⟩
          · exact ImA.keep kD6 _ _ (ImA.append ia6 (ImA.one im7))
          · rw [upd_ne n]; exact k26.ob a o (c1 a o n e m) m
          · exact kD6.tp a xs (k26.tp a xs (c2 a xs e))
          · exact kD6.fz a o u (k26.fz a o u (c3 a o u e))
  · have e : i = ds.length := by omega
    refine .inl ⟨sv2.2 (by omega), q D H2 acc ws (je acc (by rw [← e]; exact ja)) hD0 eD (ImA.avoid (fun a o _ z => nvD' a z) _ _ ia) ?_ (F.R.mono _ _ _ S2.inv (budE hc (by omega)))⟩
    exact ⟨fun a o e1 m => c1 a o (ne_of_none e1 hD0) (k1.ob a o e1 m) m, fun a xs e1 => c2 a xs (k1.tp a xs e1), fun a o u e1 => c3 a o u (k1.fz a o u e1)⟩
theorem nf_lc (K : Nat) (hc : X.calm = true) (hN : X.N.Nodup) (hi : PI X tg iter (uI F ci true wi)) (ok : BlkOk X.N X.env.scope scope own) (hg : InBlk X scope fun Y => PG Y tg (uG F is g)) (ht : InBlk X scope fun Y => PTs Y ifs (uT F ct wt))
    (he : InBlk X scope fun Y => PE Y elt (uE F ce true we)) (hv : ∀ i ∈ is, i ∈ own.map (·.2) := by decide) (hs : ∀ x, foldedSetIterable iter X.env x = pure x := by intro _; rfl) :
    PE X (.ListComp elt [⟨tg, iter, ifs, 0⟩] scope pos) (uF F (ci + K * (ct + ce)) (wLcN K wi g wt we (own.map (·.2)))) := pe_weak (pe_lc hc hN hi ok hg ht he hs) (uF_lc hv)

def uS (F : Gf) (c : Nat) (ws : WS) : TS := fun D σ H => ∃ (n : Nat) (an : List (PyData × V)) (O : Nat → Option Addr) (ρ : Ev) (Wx : WX), c ≤ n ∧ Sta (F.at n) an O σ H ρ ∧ ws Wx ρ ∧
  (∀ O' σ' H' ρ', Sta (F.at (n - c)) an O' σ' H' ρ' → Wx.nx ρ' → D.nx σ' H') ∧
  (∀ v H' d, Wx.rt d → Im F.W F.A H' d v → Keep F.R.M F.H0 H' → F.R.I (n - c) H' → D.rt v H') ∧
  (∀ O' σ' H' ρ', Sta (F.at (n - c)) an O' σ' H' ρ' → Wx.bk ρ' → D.bk σ' H') ∧
  (∀ O' σ' H' ρ', Sta (F.at (n - c)) an O' σ' H' ρ' → Wx.ct ρ' → D.ct σ' H')
variable {st : Stmt} {rest sts body : List Stmt} {w1 w2 ws : WS}
theorem ns_lift (h : ∀ n, PS X st (upS (F.at n) ws)) : PS X st (uS F 0 ws) := ⟨fun pins sh σ H D I ⟨n, an, O, ρ, Wx, _, S, hw, q1, q2, q3, q4⟩ => (h n).run pins sh σ H D I ⟨an, O, ρ, Wx, S, hw, q1, q2, q3, q4⟩⟩
theorem nss_lift (h : ∀ n, PSs X sts (upS (F.at n) ws)) : PSs X sts (uS F 0 ws) := ⟨fun pins sh σ H D I ⟨n, an, O, ρ, Wx, _, S, hw, q1, q2, q3, q4⟩ => (h n).run pins sh σ H D I ⟨an, O, ρ, Wx, S, hw, q1, q2, q3, q4⟩⟩
/-- one statement's ends, seen from a longer run -/
theorem nss_cons (h1 : PS X st (uS F c1 w1)) (h2 : PSs X rest (uS F c2 w2)) : PSs X (st :: rest) (uS F (c1 + c2) (wSq w1 w2)) := pss_weak (pss_cons h1 h2) fun D σ H ⟨n, an, O, ρ, W, hc, S, h, q1, q2, q3, q4⟩ => by
  have lo : ∀ {O' σ' H' ρ'}, Sta (F.at (n - c1)) an O' σ' H' ρ' → Sta (F.at (n - (c1 + c2))) an O' σ' H' ρ' := fun S' => S'.lo (by omega)
  refine ⟨n, an, O, ρ, _, by omega, S, h, fun O' σ' H' ρ' S' h' => ?_, fun v H' d z im k i => q2 v H' d z im k (F.R.mono _ _ _ i (by omega)), fun O' σ' H' ρ' S' z => q3 _ _ _ _ (lo S') z, fun O' σ' H' ρ' S' z => q4 _ _ _ _ (lo S') z⟩
  have e : n - c1 - c2 = n - (c1 + c2) := Nat.sub_sub _ _ _
  refine ⟨n - c1, an, O', ρ', W, by omega, S', h', ?_, ?_, ?_, ?_⟩ <;> rw [e] <;> assumption
theorem nss_one (h1 : PS X st (uS F c w1)) : PSs X [st] (uS F c w1) := pss_one h1
theorem nss_nil : PSs X [] (uS F 0 wNx) := nss_lift fun _ => dss_nil
theorem ns_ret (h : PE X e (uE F c s we)) : PS X (.Return (some e) pos) (uS F c (wRet we)) := ps_weak (ps_ret h) fun D σ H ⟨n, an, O, ρ, W, hc, S, h, q1, q2, q3, q4⟩ =>
  ⟨n, an, O, ρ, W.rt, hc, S, h, fun v H' d p im k i => q2 v H' d p (loose (G := F.at 0) im) (S.kp.trans k) i⟩
theorem ns_if {ce : Expr} (hc : PT X ce (uT F c wt)) (ha : PSs X sts (uS F c1 w1)) (hb : PSs X rest (uS F c2 w2)) : PS X (.If ce sts rest pos) (uS F (c + (c1 + c2)) (wIf wt w1 w2)) := ps_weak (ps_if hc ha hb) fun D σ H ⟨n, an, O, ρ, W, hc, S, h, q1, q2, q3, q4⟩ => by
  refine ⟨n, an, O, ρ, _, by omega, S, h, fun b H1 hb k i => ?_⟩
  have S1 := S.kN (Nat.sub_le n c) k i
  have lo : ∀ {x O' σ' H' ρ'}, n - (c + (c1 + c2)) ≤ x → Sta (F.at x) an O' σ' H' ρ' → Sta (F.at (n - (c + (c1 + c2)))) an O' σ' H' ρ' := fun l S' => S'.lo l
  cases b with
  | true =>
    rw [if_pos rfl] at hb
    show (if true = true then _ else _)
    rw [if_pos rfl]
    exact ⟨n - c, an, O, ρ, W, by omega, S1, hb, fun O' σ' H' ρ' S' z => q1 _ _ _ _ (lo (by omega) S') z, fun v H' d z im k i => q2 v H' d z im k (F.R.mono _ _ _ i (by omega)), fun O' σ' H' ρ' S' z => q3 _ _ _ _ (lo (by omega) S') z, fun O' σ' H' ρ' S' z => q4 _ _ _ _ (lo (by omega) S') z⟩
  | false =>
    rw [if_neg Bool.false_ne_true] at hb
    show (if false = true then _ else _)
    rw [if_neg Bool.false_ne_true]
    exact ⟨n - c, an, O, ρ, W, by omega, S1, hb, fun O' σ' H' ρ' S' z => q1 _ _ _ _ (lo (by omega) S') z, fun v H' d z im k i => q2 v H' d z im k (F.R.mono _ _ _ i (by omega)), fun O' σ' H' ρ' S' z => q3 _ _ _ _ (lo (by omega) S') z, fun O' σ' H' ρ' S' z => q4 _ _ _ _ (lo (by omega) S') z⟩
theorem ns_asg (he : PE X e (uE F c true we)) (hg : PG X tg (uG F is g)) (hs : swapsWithSole [tg] e pos.line X.env = pure false := by rfl) (hw : swappedStores [tg] e X.env = pure none := by rfl) (h1 : (assignEach [tg] X.env).map (·.2) = [assign tg X.env] := by rfl) :
    PS X (.Assign [tg] e pos) (uS F c (wAs we g)) := ps_weak (ps_asg he hg hs hw h1) fun D σ H ⟨n, an, O, ρ, W, hc, S, hw, q1, q2, q3, q4⟩ => by
  refine ⟨n, an, O, ρ, _, hc, S, hw, fun v H1 d h1 im k1 i1 => ?_⟩
  exact ⟨n - c, an, O, ρ, d, W.nx, S.kN (Nat.sub_le _ _) k1 i1, im, h1, fun O' σ' ρ' S' h' _ _ => q1 O' σ' H1 ρ' S' h'⟩
theorem uS_set {te : TE} {i : Nat} (h : ∀ σ H Q, uE F c true we σ H Q → te σ H Q) (D : Ends) (σ : L2.St) (H : Hp) (hq : uS F c (wSet i we) D σ H) : tAsg te (gName i) D σ H := by
  obtain ⟨n, an, O, ρ, W, hc, S, hw, q1, q2, q3, q4⟩ := hq
  exact h σ H _ ⟨n, an, O, ρ, _, hc, S, hw, fun v H1 d h1 im k1 i1 => q1 _ _ _ _ (Sta.setD (S.kN (Nat.sub_le _ _) k1 i1) i im) h1⟩
theorem ns_set (i : Nat) {x : Str} {pos' : Pos} (hN : X.N.Nodup) (he : PE X e (uE F c true we)) (hi : X.N[i]? = some x := by rfl) (hx : Loc X.env.scope x := by first | exact Or.inl rfl | exact Or.inr rfl) (hs : swapsWith e (some (.Name x pos')) pos.line X.env = pure false := by rfl)
    (hf : X.fn x = true ∨ X.env.scope.names.lookup x = some .local := by first | exact .inl rfl | exact .inr rfl | assumption) : PS X (.Assign [.Name x pos'] e pos) (uS F c (wSet i we)) :=
  ps_weak (ps_set hN hi hx he hs hf) (uS_set fun _ _ _ q => q)
theorem uS_fst {te : TE} {i : Nat} (h : ∀ σ H Q, uF F c wf σ H Q → te σ H Q) (D : Ends) (σ : L2.St) (H : Hp) (hq : uS F c (wFst i wf) D σ H) : tAsg te (gName i) D σ H := by
  obtain ⟨n, an, O, ρ, W, hc, S, hw, q1, q2, q3, q4⟩ := hq
  exact h σ H _ ⟨n, an, O, ρ, _, hc, S, hw, fun p H' ds vs h1 hp hH im k i1 => by
    obtain ⟨O2, S2⟩ := Sta.setN (S.lo (Nat.sub_le n c)) hp hH k i1 i im
    exact q1 _ _ _ _ S2 h1⟩
theorem ns_fst (i : Nat) {x : Str} {pos' : Pos} (hN : X.N.Nodup) (he : PE X e (uF F c wf)) (hi : X.N[i]? = some x := by rfl) (hx : Loc X.env.scope x := by first | exact Or.inl rfl | exact Or.inr rfl) (hs : swapsWith e (some (.Name x pos')) pos.line X.env = pure false := by rfl)
    (hf : X.fn x = true ∨ X.env.scope.names.lookup x = some .local := by first | exact .inl rfl | exact .inr rfl | assumption) : PS X (.Assign [.Name x pos'] e pos) (uS F c (wFst i wf)) :=
  ps_weak (ps_set hN hi hx he hs hf) (uS_fst fun _ _ _ q => q)
theorem ns_lcD (K i : Nat) {y : Str} {py : Pos} (hc : X.calm = true) (hN : X.N.Nodup) (hsw : swapsWith (.ListComp elt [⟨tg, iter, ifs, 0⟩] scope pos) (some (.Name y py)) spos.line X.env = pure true) (hi : PI X tg iter (uI F ci true wi)) (ok : BlkOk X.N X.env.scope scope own)
    (hg : InBlk X scope fun Y => PG Y tg (uG F is g)) (ht : InBlk X scope fun Y => PTs Y ifs (uT F ct wt)) (he : InBlk X scope fun Y => PE Y elt (uE F ce true we)) (hy : X.N[i]? = some y := by rfl) (hyl : X.env.scope.names.lookup y = some .local := by rfl)
    (hv : ∀ i ∈ is, i ∈ own.map (·.2) := by decide) (hs : ∀ x, foldedSetIterable iter X.env x = pure x := by intro _; rfl) :
    PS X (.Assign [.Name y py] (.ListComp elt [⟨tg, iter, ifs, 0⟩] scope pos) spos) (uS F (ci + K * (ct + ce)) (wSet i (wFv (wLcN K wi g wt we (own.map (·.2)))))) :=
  ps_weak (ps_setLc hc hN hy hyl hsw hi ok hg ht he hs) (uS_set fun σ H Q h => uF_lc hv σ H Q (uE_fv σ H Q h))
theorem ns_lcO (K i : Nat) {y : Str} {py : Pos} (hc : X.calm = true) (hN : X.N.Nodup) (hsw : swapsWith (.ListComp elt [⟨tg, iter, ifs, 0⟩] scope pos) (some (.Name y py)) spos.line X.env = pure true) (hi : PI X tg iter (uI F ci true wi)) (ok : BlkOk X.N X.env.scope scope own)
    (hg : InBlk X scope fun Y => PG Y tg (uG F is g)) (ht : InBlk X scope fun Y => PTs Y ifs (uT F ct wt)) (he : InBlk X scope fun Y => PE Y elt (uE F ce true we)) (hy : X.N[i]? = some y := by rfl) (hyl : X.env.scope.names.lookup y = some .local := by rfl)
    (hv : ∀ i ∈ is, i ∈ own.map (·.2) := by decide) (hs : ∀ x, foldedSetIterable iter X.env x = pure x := by intro _; rfl) :
    PS X (.Assign [.Name y py] (.ListComp elt [⟨tg, iter, ifs, 0⟩] scope pos) spos) (uS F (ci + K * (ct + ce)) (wFst i (wLcN K wi g wt we (own.map (·.2))))) :=
  ps_weak (ps_setLc hc hN hy hyl hsw hi ok hg ht he hs) (uS_fst (uF_lc hv))
theorem nss_frz (i : Nat) (h : PSs X sts (uS F c ws)) : PSs X sts (uS F c (wFrz i ws)) := pss_weak h fun D σ H ⟨n, an, O, ρ, W, hc, S, hw, q1, q2, q3, q4⟩ => by
  unfold wFrz at hw
  split at hw
  · rename_i ds hx
    exact ⟨n, an, _, _, W, hc, S.frz hx, hw, q1, q2, q3, q4⟩
  · exact ⟨n, an, O, ρ, W, hc, S, hw, q1, q2, q3, q4⟩
theorem ns_app (i : Nat) {x : Str} {p1 apos cpos : Pos} (he : PE X e (uE F c true we)) (hN : X.N[i]? = some x := by rfl) (hv : Vis X.env.scope x := by first | exact Or.inl rfl | exact Or.inr (Or.inl rfl) | exact Or.inr (Or.inr rfl))
    (hd : (x == ("__debug__" : Str)) = false := by decide) (hcd : (x == ("__classdict__" : Str)) = false := by decide)
    (hbase : attributeBase (.Name x p1) "append" X.env (eval (.Name x p1) X.env) = eval (.Name x p1) X.env := by rfl)
    (hfew : ((backTo cpos (starEach [e] X.env)).all (fun x => !x.1) && (backToKw cpos (keywordEach [] X.env)).all (fun x => x.1.isSome) && decide (([e] : List Expr).length + ([] : List Keyword).length + (if ([] : List Keyword).isEmpty then 0 else 1) < 30)) = true := by rfl)
    (hline : (apos.endLine == cpos.line) = true := by rfl) (hst : starEach [e] X.env = (false, eval e X.env) :: starEach [] X.env := by rfl) (hpl : (backTo cpos (starEach [] X.env)).any (·.1) = false := by rfl)
    (hs : swapsWith (.Call (.Attribute (.Name x p1) "append" apos) [e] [] cpos) none pos.line X.env = pure false := by rfl) :
    PS X (.Expr (.Call (.Attribute (.Name x p1) "append" apos) [e] [] cpos) pos) (uS F c (wApp i we)) := ps_weak (ps_expr (pe_bm PySem.F.plainAttrs_list PySem.F.slot_list_append PySem.F.type_list_append mt_append (pe_var hN hv hd hcd) (pa_cons he pa_nil hst) hbase hfew hline hst hpl) hs) fun D σ H ⟨n, an, O, ρ, W, hc, S, h, q1, q2, q3, q4⟩ => by
  obtain ⟨ds, p, vs, hx, e1, e2, e3, m, hw⟩ := own_slot S h
  refine ⟨.ref p, e1, .inl ⟨rfl, vs, .inl (.inl e3)⟩, n, an, O, ρ, _, hc, S, hw, fun v H1 d h1 im k1 i1 => ?_⟩
  have S1 := S.kN (Nat.sub_le n c) k1 i1
  have e3' := k1.ob p _ e3 (S.nM e2)
  refine ⟨p, vs, v, rfl, rfl, e3', Nat.lt_of_lt_of_le (by rw [ImA.length m]; exact h1.1) (by decide), ?_⟩
  exact q1 _ _ _ _ (S1.chg hx e2 e1 e3' (ImA.append (ImA.keep (Sta.ka (s := true) S k1) _ _ m) (ImA.one im))) h1.2
theorem ns_setI (i : Nat) {x : Str} {p1 p2 : Pos} (he : PE X e (uE F c1 true we)) (hk : PE X b (uE F c2 s2 wk)) (hN : X.N[i]? = some x := by rfl) (hv : Vis X.env.scope x := by first | exact Or.inl rfl | exact Or.inr (Or.inl rfl) | exact Or.inr (Or.inr rfl))
    (hd : (x == ("__debug__" : Str)) = false := by decide) (hcd : (x == ("__classdict__" : Str)) = false := by decide)
    (ha : ∀ v, assign (.Subscript (.Name x p1) b p2) X.env v = (do
      let ov ← holding [v] (eval (.Name x p1) X.env)
      let iv ← holding [v, ov] (eval b X.env)
      standAt p2
      holding [v, ov, iv] (setItem ov iv v)
      release [v, ov, iv] []) := by intro _; rfl)
    (hs : swapsWithSole [.Subscript (.Name x p1) b p2] e pos.line X.env = pure false := by rfl) (hw : swappedStores [.Subscript (.Name x p1) b p2] e X.env = pure none := by rfl) (h1 : (assignEach [.Subscript (.Name x p1) b p2] X.env).map (·.2) = [assign (.Subscript (.Name x p1) b p2) X.env] := by rfl) :
    PS X (.Assign [.Subscript (.Name x p1) b p2] e pos) (uS F (c1 + c2) (wSetI i we wk)) :=
  ps_weak (ps_asg he (pg_sub (pe_var hN hv hd hcd) hk set_list ha) hs hw h1) fun D σ H ⟨n, an, O, ρ, W, hc, S, h, q1, q2, q3, q4⟩ => by
    obtain ⟨ds, p, vs, hx, e1, e2, e3, m, h⟩ := own_slot S h
    refine ⟨n, an, O, ρ, _, by omega, S, h, fun v H1 d hd1 im k1 i1 => ?_⟩
    have S1 := Sta.ana (S.kN (Nat.sub_le n c1) k1 i1) (src := [(d, v)]) fun p hp => by rw [List.mem_singleton.mp hp]; exact im
    have m1 := ImA.keep (Sta.ka (s := true) S k1) _ _ m
    have e3 := k1.ob p _ e3 (S.nM e2)
    refine ⟨.ref p, e1, n - c1, _, O, ρ, _, by omega, S1, hd1, fun kv H2 kd hk2 im2 k2 i2 => ?_⟩
    have S2 := S1.kN (Nat.sub_le _ c2) k2 i2
    have m2 := ImA.keep (Sta.ka (s := true) S1 k2) _ _ m1
    have e3 := k2.ob p _ e3 (S1.nM e2)
    cases kd with
    | int j =>
      obtain ⟨n, hn, hq⟩ := hk2
      refine ⟨p, vs, j, n, rfl, im2, e3, by rw [ImA.length m]; exact hn, ?_⟩
      have imv := S2.as (d, v) (List.mem_append_left _ List.mem_cons_self)
      rw [Nat.sub_sub] at S2
      exact q1 _ _ _ _ ((S2.chg hx e2 e1 e3 (ImA.set n m2 imv)).anm fun p hp => List.mem_append_right _ hp) hq
    | _ => exact hk2.elim
def wForN (K : Nat) (wi : WI) (g : WG) (wb : WS) : WS := fun W ρ => wi ρ fun ds => ds.length ≤ K ∧ ∃ J : Nat → Ev → Prop, J 0 ρ ∧
  (∀ (i : Nat) (d : PyData) (ρ' : Ev), ds[i]? = some d → J i ρ' → g d ρ' fun ρ2 => wb { W with nx := J (i + 1), ct := J (i + 1), bk := W.nx } ρ2) ∧ ∀ ρ', J ds.length ρ' → W.nx ρ'
theorem ns_for (K : Nat) (hp : PassesOwn (model X.prog X.w) X.A X.env X.xe) (hc : X.calm = true) (hi : PI X tg iter (uI F ci true wi)) (hg : PG X tg (uG F is g)) (hb : PSs X body (uS F c ws)) (hs : ∀ x, foldedSetIterable iter X.env x = pure x := by intro _; rfl) :
    PS X (.For tg iter body [] pos) (uS F (ci + K * c) (wForN K wi g ws)) := ps_weak (ps_for hp hc hi hg hb hs) fun D σ H ⟨n, an, O, ρ, W, hc, S, h, q1, q2, q3, q4⟩ => by
  refine ⟨n, an, O, ρ, _, by omega, S, h, fun J H1 ds src h1 sv im k1 i1 => ?_⟩
  obtain ⟨hK, JJ, j0, jt, je⟩ := h1
  have S1 := S.kN (Nat.sub_le n ci) k1 i1
  refine ⟨fun i m σ H => i + m = ds.length ∧ ∃ O ρ, Sta (F.at (n - ci - i * c)) (src ++ an) O σ H ρ ∧ JJ i ρ, ⟨ds.length, by omega, O, ρ, by rw [Nat.zero_mul]; exact S1.ana im, j0⟩, ?_⟩
  rintro i m σ H ⟨hm, O1, ρ1, S2, ji⟩
  have hv := sv (Nv F.A O1) H i fun p hp => S2.as p (List.mem_append_left _ hp)
  by_cases hlt : i < ds.length
  · obtain ⟨go, yl⟩ := hv.1 hlt
    obtain ⟨b1, b2⟩ := bud hc (Nat.lt_of_lt_of_le hlt hK)
    have b3 := budE (i := i + 1) hc (Nat.le_trans hlt hK)
    generalize hni : n - ci - i * c = ni at S2 b1 b2
    refine .inr ⟨go, fun σ' H' => i + 1 + (m - 1) = ds.length ∧ ∃ O ρ, Sta (F.at (n - ci - (i + 1) * c)) (src ++ an) O σ' H' ρ ∧ JJ (i + 1) ρ, fun σ' H' hN => ⟨m - 1, by omega, hN⟩, fun x H' y => ?_⟩
    obtain ⟨k, iv⟩ := yl x H' y
    have hd : ds[i]? = some ds[i] := List.getElem?_eq_getElem hlt
    have S3 := S2.keep (Keep.none k) (stK_of S2.inv k)
    refine ⟨ni, src ++ an, O1, ρ1, ds[i], _, S3, iv _ hd, jt i _ ρ1 hd ji, fun O4 σ4 ρ4 S4 h4 _ _ => ?_⟩
    rw [← b2]
    rw [← b2] at b3
    refine ⟨ni, src ++ an, O4, ρ4, _, b1, S4, h4, fun O' σ' H' ρ' S' h' => ⟨by omega, O', ρ', S', h'⟩, fun v H' d z im k i => q2 v H' d z im k (F.R.mono _ _ _ i b3), fun O' σ' H' ρ' S' h' => q1 O' σ' H' ρ' (Sta.lo (Sta.anm S' fun p hp => List.mem_append_right _ hp) b3) h', fun O' σ' H' ρ' S' h' => ⟨by omega, O', ρ', S', h'⟩⟩
  · have e : i = ds.length := by omega
    refine .inl ⟨hv.2 (by omega), q1 _ _ _ _ (Sta.lo (Sta.anm S2 fun p hp => List.mem_append_right _ hp) (budE hc (by omega))) (je ρ1 (by rw [← e]; exact ji))⟩
end
end DL

namespace DL
open PySem PySem.Spec PyProof.Rows L2

section
variable {F : Gf} {O : Nat → Option Addr} {H : Hp} {m m' : Nat}
theorem esOk_at : ∀ {es : List Ent} {n : Nat} {vs : List V}, EsOk (F.at m) O n H es vs → EsOk (F.at m') O n H es vs
  | [], _, _, h => h
  | .d x :: es, n, _, h => by
    obtain ⟨v, r, e, i, q⟩ := h
    exact ⟨v, r, e, i, esOk_at q⟩
  | .o ds :: es, n, _, h => by
    obtain ⟨p, j, ws, r, e, l, o, y, i, q⟩ := h
    exact ⟨p, j, ws, r, e, l, o, y, i, esOk_at q⟩
  | .m :: _, _, _, h => h.elim
  | .u :: _, _, _, h => h.elim
  | .s _ :: _, _, _, h => h.elim
end
def uP (F : Gf) (c : Nat) (wa : WAE) : TA := fun σ H Q => ∃ (m : Nat) (an : List (PyData × V)) (O : Nat → Option Addr) (ρ : Ev) (Φ : List Ent → Prop), c ≤ m ∧ Sta (F.at m) an O σ H ρ ∧ wa ρ Φ ∧
  ∀ vs H' es O' n, Φ es → ρ.length ≤ n → (∀ i, n ≤ i → O i = none) → EsOk (F.at (m - c)) O' n H' es vs → Sta (F.at (m - c)) an O' σ H' ρ → Keep F.R.M H H' → (∀ i p, O' i = some p → O i = some p ∨ H p = none) → (∀ i p, O i = some p → O' i = some p) → Q vs H'
section
variable {X : Cx} {F : Gf} {pos : Pos} {s s1 s2 : Bool} {e a b c d tg : Expr} {es : List Expr} {we wa wb wc : WE} {wr : WAE} {wf : WF} {c1 c2 k1 : Nat}
theorem np_nil : PA X [] (uP F 0 wEn) := pa_weak pa_nil fun σ H Q ⟨m, an, O, ρ, Φ, hc, S, h, q⟩ => by
  obtain ⟨bd, hbd⟩ := S.ob
  exact q [] H [] O (max bd ρ.length) h (Nat.le_max_right _ _) (fun i hi => hbd i (Nat.le_trans (Nat.le_max_left _ _) hi)) rfl S (Keep.refl H) (fun _ _ e => .inl e) fun _ _ e => e
theorem np_d (ha : PE X e (uE F c1 true we)) (hr : PA X es (uP F c2 wr)) (hs : starEach (e :: es) X.env = (false, eval e X.env) :: starEach es X.env := by rfl) : PA X (e :: es) (uP F (c1 + c2) (wEd we wr)) :=
  pa_weak (pa_cons ha hr hs) fun σ H Q ⟨m, an, O, ρ, Φ, hc, S, h, q⟩ => by
    refine ⟨m, an, O, ρ, _, by omega, S, h, fun v H1 d h1 im k1 i1 => ?_⟩
    have S1 := S.kN (Nat.sub_le m c1) k1 i1
    refine ⟨m - c1, an, O, ρ, _, by omega, S1, h1, fun vs H2 es O' n h2 n1 n2 ok S2 k2 x1 x2 => ?_⟩
    have m1 : Im F.W (Nv F.A O') H1 d v := Im.avoid (fun a o ea z => z.elim .inl fun ⟨i, y⟩ => (x1 i a y).elim (fun y => .inr ⟨i, y⟩) fun y => by rw [y] at ea; cases ea) d v im
    have m2 := Im.keep (k2.mono fun a m => .inl (S.ra a m)) d v m1
    rw [Nat.sub_sub] at ok S2
    exact q (v :: vs) H2 (.d d :: es) O' n h2 n1 n2 ⟨v, vs, rfl, m2, ok⟩ S2 (k1.trans k2) (fun i p e => (x1 i p e).elim .inl fun z => .inr (S1.back k1 z)) x2
theorem np_f (ha : PE X e (uF F c1 wf)) (hr : PA X es (uP F c2 wr)) (hs : starEach (e :: es) X.env = (false, eval e X.env) :: starEach es X.env := by rfl) : PA X (e :: es) (uP F (c1 + c2) (wEf wf wr)) :=
  pa_weak (pa_cons ha hr hs) fun σ H Q ⟨m, an, O, ρ, Φ, hc, S, h, q⟩ => by
    refine ⟨m, an, O, ρ, _, by omega, S, h, fun p H1 ds vs h1 hp hH im k1 i1 => ?_⟩
    obtain ⟨bd, hbd⟩ := S.ob
    have hj : O (max bd ρ.length) = none := hbd _ (Nat.le_max_left _ _)
    have S1 := Sta.own (S.lo (Nat.sub_le m c1)) hp hH k1 i1 (max bd ρ.length) (Nat.le_max_right _ _)
    refine ⟨m - c1, an, _, ρ, _, by omega, S1, h1, fun ws H2 es O' n h2 n1 n2 ok S2 k2 x1 x2 => ?_⟩
    have hn : max bd ρ.length + 1 ≤ n := Nat.lt_of_not_le fun z => by
      have y := n2 _ z
      rw [setO_same] at y
      cases y
    rw [Nat.sub_sub] at ok S2
    refine q (.ref p :: ws) H2 (.o ds :: es) O' (max bd ρ.length) h2 (Nat.le_max_right _ _) (fun i hi => hbd i (Nat.le_trans (Nat.le_max_left _ _) hi)) ⟨p, max bd ρ.length, vs, ws, rfl, Nat.le_refl _, x2 _ _ setO_same, k2.ob p _ hH (S1.nM setO_same), ?_, EsOk.le hn ok⟩ S2 (k1.trans k2) (fun i r e => ?_) (fun i r e => ?_)
    · have m1 : ImA F.W (Nv F.A O') H1 ds vs := ImA.avoid (fun a o ea z => by
        rcases z with z | ⟨i, y⟩
        · exact .inl (.inl z)
        · rcases x1 i a y with y | y
          · by_cases q : i = max bd ρ.length
            · rw [q, setO_same] at y
              cases y
              exact .inr rfl
            · rw [setO_ne q] at y
              exact .inl (.inr ⟨i, y⟩)
          · rw [y] at ea; cases ea) _ _ im
      exact ImA.keep (k2.mono fun a m => .inl (S.ra a m)) _ _ m1
    · rcases x1 i r e with y | y
      · by_cases q : i = max bd ρ.length
        · rw [q, setO_same] at y
          cases y
          exact .inr hp
        · rw [setO_ne q] at y
          exact .inl y
      · exact .inr (S1.back k1 y)
    · by_cases q : i = max bd ρ.length
      · rw [q, hj] at e; cases e
      · exact x2 i r (by rw [setO_ne q]; exact e)
theorem ns_par2 (i j : Nat) {x y : Str} {px py pt : Pos} {kt k2 pt2} (hc : X.calm = true) (hN : X.N.Nodup) (ha : PA X [a, b] (uP F c1 wr)) (hi : X.N[i]? = some x := by rfl) (hj : X.N[j]? = some y := by rfl) (hij : i ≠ j := by decide)
    (hx : X.env.scope.names.lookup x = some .local := by rfl) (hy : X.env.scope.names.lookup y = some .local := by rfl)
    (hw : swappedStores [.Tuple [.Name x px, .Name y py] kt pt] (.Tuple [a, b] k2 pt2) X.env = pure (some [x, y]) := by rfl)
    (hs : swapsWithSole [.Tuple [.Name x px, .Name y py] kt pt] (.Tuple [a, b] k2 pt2) pos.line X.env = pure false := by rfl) :
    PS X (.Assign [.Tuple [.Name x px, .Name y py] kt pt] (.Tuple [a, b] k2 pt2) pos) (uS F c1 (wPars [i, j] wr)) := ps_weak (ps_par hc hN hi hj hij hx hy ha hw hs) fun D σ H ⟨m, an, O, ρ, W, hc, S, h, q1, _⟩ => by
  refine ⟨m, an, O, ρ, _, hc, S, h, fun vs H1 es O' n h1 n1 n2 ok S1 k x1 x2 => ?_⟩
  obtain ⟨l, hb, hw⟩ := h1
  have vl := EsOk.vlen ok
  obtain ⟨O2, S2⟩ := S1.putsOk ok n1 hb.2 l
  match vs, vl with
  | [v, w], _ => exact ⟨v, w, rfl, q1 _ _ _ _ S2 hw⟩
  | [], vl => rw [← l] at vl; cases vl
  | [_], vl => rw [← l] at vl; cases vl
  | _ :: _ :: _ :: _, vl => rw [← l] at vl; simp at vl
theorem ns_par3 (i j k : Nat) {x y z : Str} {px py pz pt : Pos} {kt k2 pt2} (hc : X.calm = true) (hN : X.N.Nodup) (ha : PA X [a, b, c] (uP F c1 wr)) (hi : X.N[i]? = some x := by rfl) (hj : X.N[j]? = some y := by rfl) (hk : X.N[k]? = some z := by rfl) (hij : i ≠ j := by decide) (hik : i ≠ k := by decide) (hjk : j ≠ k := by decide)
    (hx : X.env.scope.names.lookup x = some .local := by rfl) (hy : X.env.scope.names.lookup y = some .local := by rfl) (hz : X.env.scope.names.lookup z = some .local := by rfl)
    (hw : swappedStores [.Tuple [.Name x px, .Name y py, .Name z pz] kt pt] (.Tuple [a, b, c] k2 pt2) X.env = pure (some [x, y, z]) := by rfl)
    (hs : swapsWithSole [.Tuple [.Name x px, .Name y py, .Name z pz] kt pt] (.Tuple [a, b, c] k2 pt2) pos.line X.env = pure false := by rfl) :
    PS X (.Assign [.Tuple [.Name x px, .Name y py, .Name z pz] kt pt] (.Tuple [a, b, c] k2 pt2) pos) (uS F c1 (wPars [i, j, k] wr)) := ps_weak (ps_par3 hc hN hi hj hk hij hik hjk hx hy hz ha hw hs) fun D σ H ⟨m, an, O, ρ, W, hc, S, h, q1, _⟩ => by
  refine ⟨m, an, O, ρ, _, hc, S, h, fun vs H1 es O' n h1 n1 n2 ok S1 k x1 x2 => ?_⟩
  obtain ⟨l, hb, hw⟩ := h1
  have vl := EsOk.vlen ok
  obtain ⟨O2, S2⟩ := S1.putsOk ok n1 hb.2 l
  match vs, vl with
  | [v, w, u], _ => exact ⟨v, w, u, rfl, q1 _ _ _ _ S2 hw⟩
  | [], vl => rw [← l] at vl; cases vl
  | [_], vl => rw [← l] at vl; cases vl
  | [_, _], vl => rw [← l] at vl; cases vl
  | _ :: _ :: _ :: _ :: _, vl => rw [← l] at vl; simp at vl
theorem ns_parN {is : List Nat} {ts es : List Expr} {pt : Pos} {kt k2 pt2} {n : Nat} (hc : X.calm = true) (ha : PA X es (uP F c1 wr)) (hg : PGs X ts (tNames is)) (hn : (assignEach ts X.env).length = n := by rfl) (hst : (assignEach ts X.env).findIdx? (·.1) = none := by rfl) (hl : is.length = n := by rfl)
    (hs : swapsWithSole [.Tuple ts kt pt] (.Tuple es k2 pt2) pos.line X.env = pure false := by rfl) (hw : swappedStores [.Tuple ts kt pt] (.Tuple es k2 pt2) X.env = pure none := by rfl) (h1 : (assignEach [.Tuple ts kt pt] X.env).map (·.2) = [assign (.Tuple ts kt pt) X.env] := by rfl) :
    PS X (.Assign [.Tuple ts kt pt] (.Tuple es k2 pt2) pos) (uS F c1 (wPars is wr)) := ps_weak (ps_asg (pe_tup ha) (pg_tup hc hg hn hst) hs hw h1) fun D σ H ⟨m, an, O, ρ, W, hc, S, h, q1, _⟩ => by
  refine ⟨m, an, O, ρ, _, hc, S, h, fun vs H1 es O' m h1 n1 n2 ok S1 k x1 x2 => ?_⟩
  obtain ⟨l, hb, hw⟩ := h1
  have vl := EsOk.vlen ok
  have hz : vs.length ≤ sizeLine := line5 (by rw [vl, ← l]; exact hb.1)
  refine ⟨hz, fun p hp => ?_⟩
  have S3 := S1.keep (Keep.new hp) (S1.newI hp) (H' := upd H1 p (.tup vs))
  refine ⟨p, vs, rfl, .inl (.inl upd_same), by rw [vl, ← l, hl], names_run (by rw [vl, ← l]) ?_⟩
  have kN : Keep (Nv F.A O') H1 (upd H1 p (.tup vs)) := Keep.new hp
  have np : ∀ j q, O' j = some q → q ≠ p := fun j q e z => by
    obtain ⟨_, xs, y⟩ := S1.fr j q e
    rw [z, hp] at y
    cases y
  obtain ⟨O2, S2⟩ := S3.putsOk (EsOk.keep kN np ok) n1 hb.2 l
  exact q1 _ _ _ _ S2 hw
end
/-- the promise of a def that draws: its first argument is the drawn state, kc draws at most -/
def spN (W : Wd) (RR : Addr → Addr → ResN) (kc n : Nat) (F : FD) : Sp := fun vs H Q _ => ∃ (b c : Addr) (m : Nat) (N : Addr → Prop) (ds : List PyData) (vs' : List V) (Φ : PyData → Prop), kc ≤ m ∧ vs = .ref (RR b c).b :: vs' ∧ vs.length = n ∧ (RR b c).I m H ∧ (∀ a, (RR b c).M a → N a) ∧
  (∀ a, N a → ∃ o, H a = some o) ∧ ImA W N H ds vs' ∧ F ds Φ ∧ ∀ v H' d, Φ d → Im W N H' d v → Keep (RR b c).M H H' → (RR b c).I (m - kc) H' → Q v H'
section
variable {X : Cx} {F : Gf} {pos p : Pos} {s : Bool} {e : Expr} {es : List Expr} {wr wk : WA} {kws : List Keyword} {x : Str} {k j n : Nat} {f : Addr} {fd : FuncData} {ps ks : List Str} {sp : Sp} {Fd : FD} {idx : List Nat} {st : Stmt} {c c1 c2 kc : Nat}
/-- data in, data out; the arguments may draw -/
theorem ne_callP (C : Cal X.prog X.w F.W.K X.mg X.base k x st ps (spP F.W ps.length Fd)) (hK : X.K = F.W.K) (hr : Rg j X.A) (hb : KbS x st ps [] n idx) (hkj : k ≤ j) (hg : Gl X x) (ha : PA X (e :: es) (uA F c s wr)) (hp : (perm idx (List.range (n + 0))).length = ps.length := by rfl)
    (hdb : (x == ("__debug__" : Str)) = false := by decide) (he : starEach (e :: es) X.env = (false, eval e X.env) :: starEach es X.env := by rfl) (hpl : (backTo pos (starEach es X.env)).any (·.1) = false := by rfl) :
    PE X (.Call (.Name x p) (e :: es) [] pos) (uE F c s (wG Fd n 0 idx wr wNil)) := by
  obtain ⟨f, fd, Fn, hm, Fg⟩ := C.ex
  rw [← hK] at Fn Fg
  refine pe_weak (pe_callGP (E := fun _ _ _ => False) Fg (hr.mono hkj) (Kb.of Fn hb) pass0 hg hm Fn.kp ha hdb he hpl) fun σ H Q ⟨m, an, O, ρ, Φ, hc, S, h, q⟩ => ?_
  refine ⟨m, an, O, ρ, _, hc, S, h, fun vs H1 ds h1 im k1 i1 => ?_⟩
  have S1 := S.kN (Nat.sub_le m c) k1 i1
  obtain ⟨l1, l2, hF⟩ := h1
  have ia : ImA F.W (Nn (F.at 0) O s) H1 (ds ++ []) (vs ++ []) := by rw [List.append_nil, List.append_nil]; exact im
  have lp : (perm idx (vs ++ [])).length = ps.length := by
    rw [perm_len, List.length_append, ImA.length im, l1]
    exact hp
  refine ⟨(ImA.length im).trans l1, rfl, Nn (F.at 0) O s, _, Φ, lp, fun a z => S1.there (nn_v z), ImA.perm ia idx, hF, fun v H3 d hd im3 k3 => ?_⟩
  exact q v H3 d hd im3 (k1.trans (k3.mono fun a z => z.elim)) (F.R.st _ _ _ i1 fun a o _ e => k3.ob a o e id)
/-- the drawn state, in slot i, as first argument -/
theorem ne_callR {RR : Addr → Addr → ResN} {b c0 : Addr} {y : Str} {py : Pos} (i : Nat) (C : Cal X.prog X.w F.W.K X.mg X.base k x st ps (spN F.W RR kc ps.length Fd)) (hR : F.R = RR b c0) (hK : X.K = F.W.K) (hr : Rg j X.A) (hb : KbS x st ps [] ps.length (List.range ps.length)) (hkj : k ≤ j) (hg : Gl X x)
    (ha : PA X es (uA F c s wr)) (hN : X.N[i]? = some y := by rfl) (hv : Vis X.env.scope y := by first | exact Or.inl rfl | exact Or.inr (Or.inl rfl) | exact Or.inr (Or.inr rfl)) (hd : (y == ("__debug__" : Str)) = false := by decide) (hcd : (y == ("__classdict__" : Str)) = false := by decide)
    (hdb : (x == ("__debug__" : Str)) = false := by decide) (he : starEach (.Name y py :: es) X.env = (false, eval (.Name y py) X.env) :: starEach es X.env := by rfl) (hpl : (backTo pos (starEach es X.env)).any (·.1) = false := by rfl) :
    PE X (.Call (.Name x p) (.Name y py :: es) [] pos) (uE F (c + kc) s (wGR i Fd ps.length wr)) := by
  obtain ⟨f, fd, Fn, hm, Fg⟩ := C.ex
  rw [← hK] at Fn Fg
  refine pe_weak (pe_callGP (E := fun _ _ _ => False) Fg (hr.mono hkj) (Kb.of Fn hb) pass0 hg hm Fn.kp (pa_cons (pe_var hN hv hd hcd) ha he) hdb he hpl) fun σ H Q ⟨m, an, O, ρ, Φ, hc, S, h, q⟩ => ?_
  have en := S.en i
  unfold wGR at h
  cases hx : nth ρ i with
  | m =>
    rw [hx] at en h
    refine ⟨.ref F.R.b, en, m, an, O, ρ, _, by omega, S, h, fun vs H1 ds h1 im k1 i1 => ?_⟩
    have S1 := S.kN (Nat.sub_le m c) k1 i1
    obtain ⟨l1, hF⟩ := h1
    have lv : (V.ref F.R.b :: vs).length = ps.length := by rw [List.length_cons, ImA.length im]; exact l1
    refine ⟨lv, rfl, ?_⟩
    rw [List.append_nil, perm_id _ _ lv]
    refine ⟨b, c0, m - c, Nn (F.at 0) O s, ds, vs, Φ, by omega, by rw [hR], lv, by rw [← hR]; exact i1, fun a z => nn_a (S.ra a (show F.R.M a by rw [hR]; exact z)), fun a z => S1.there (nn_v z), im, hF, fun v H2 d hd m2 k2 i2 => ?_⟩
    rw [← hR] at k2 i2
    exact q v H2 d hd m2 (k1.trans k2) (by rw [← Nat.sub_sub]; exact i2)
  | _ => rw [hx] at h; exact h.elim
theorem nf_callR {RR : Addr → Addr → ResN} {b c0 : Addr} {y : Str} {py : Pos} (i : Nat) (C : Cal X.prog X.w F.W.K X.mg X.base k x st ps (spN F.W RR kc ps.length Fd)) (hR : F.R = RR b c0) (hK : X.K = F.W.K) (hr : Rg j X.A) (hb : KbS x st ps [] ps.length (List.range ps.length)) (hkj : k ≤ j) (hg : Gl X x)
    (ha : PA X es (uA F c true wr)) (hN : X.N[i]? = some y := by rfl) (hv : Vis X.env.scope y := by first | exact Or.inl rfl | exact Or.inr (Or.inl rfl) | exact Or.inr (Or.inr rfl)) (hd : (y == ("__debug__" : Str)) = false := by decide) (hcd : (y == ("__classdict__" : Str)) = false := by decide)
    (hdb : (x == ("__debug__" : Str)) = false := by decide) (he : starEach (.Name y py :: es) X.env = (false, eval (.Name y py) X.env) :: starEach es X.env := by rfl) (hpl : (backTo pos (starEach es X.env)).any (·.1) = false := by rfl) :
    PE X (.Call (.Name x p) (.Name y py :: es) [] pos) (uF F (c + kc) (wGRF i Fd ps.length wr)) := by
  obtain ⟨f, fd, Fn, hm, Fg⟩ := C.ex
  rw [← hK] at Fn Fg
  refine pe_weak (pe_callGP (E := fun _ _ _ => False) Fg (hr.mono hkj) (Kb.of Fn hb) pass0 hg hm Fn.kp (pa_cons (pe_var hN hv hd hcd) ha he) hdb he hpl) fun σ H Q ⟨m, an, O, ρ, Φ, hc, S, h, q⟩ => ?_
  have en := S.en i
  unfold wGRF at h
  cases hx : nth ρ i with
  | m =>
    rw [hx] at en h
    refine ⟨.ref F.R.b, en, m, an, O, ρ, _, by omega, S, h, fun vs H1 ds h1 im k1 i1 => ?_⟩
    have S1 := S.kN (Nat.sub_le m c) k1 i1
    obtain ⟨l1, fr, hF⟩ := h1
    have lv : (V.ref F.R.b :: vs).length = ps.length := by rw [List.length_cons, ImA.length im]; exact l1
    refine ⟨lv, rfl, ?_⟩
    rw [List.append_nil, perm_id _ _ lv]
    refine ⟨b, c0, m - c, fun a => ∃ o, H1 a = some o, ds, vs, _, by omega, by rw [hR], lv, by rw [← hR]; exact i1, fun a z => ?_, fun a z => z, ImA.free _ _ fr im, hF, fun v H2 d hd m2 k2 i2 => ?_⟩
    · rw [← hR] at z
      exact F.R.al _ H1 a i1 z
    · rw [← hR] at k2 i2
      obtain ⟨es2, rfl, fe, hΦ⟩ := hd
      obtain ⟨p2, ws, rfl, r, n, mm⟩ := m2
      have n1 : H1 p2 = none := by
        cases z : H1 p2 with
        | none => rfl
        | some o => exact absurd ⟨o, z⟩ n
      exact q p2 H2 es2 ws hΦ (S1.back k1 n1) r (ImA.free _ _ fe mm) (k1.trans k2) (by rw [← Nat.sub_sub]; exact i2)
  | _ => rw [hx] at h; exact h.elim
end
theorem nss_le {X : Cx} {F : Gf} {sts : List Stmt} {ws : WS} {c k : Nat} (h : PSs X sts (uS F c ws)) (hl : c ≤ k) : PSs X sts (uS F k ws) := pss_weak h fun D σ H ⟨n, an, O, ρ, W, hc, S, hw, q1, q2, q3, q4⟩ =>
  ⟨n, an, O, ρ, W, Nat.le_trans hl hc, S, hw, fun O' σ' H' ρ' S' z => q1 _ _ _ _ (S'.lo (by omega)) z, fun v H' d z im k i => q2 v H' d z im k (F.R.mono _ _ _ i (by omega)), fun O' σ' H' ρ' S' z => q3 _ _ _ _ (S'.lo (by omega)) z, fun O' σ' H' ρ' S' z => q4 _ _ _ _ (S'.lo (by omega)) z⟩
section
variable {P : Program} {w : World} {mg : Str → Option Value} {base : Heap} {W : Wd} {k kc : Nat} {f cL : Addr} {fd : FuncData} {ps N : List Str} {x qual : Str} {st : Stmt} {F : FD} {RR : Addr → Addr → ResN}
/-- a def that draws kc times at most -/
theorem ok_drawN (Fn : Fun W.K x qual st f fd) (S : FnScope N ps (defScope st)) (hn : ps.length ≤ N.length) (len : ∀ ds Φ, F ds Φ → ds.length + 1 = ps.length)
    (body : ∀ (cdv : Value) (A : Around) (env : List Env) (s : Shared) (H : Hp) (E : XK) (N0 : Addr → Prop) (b c : Addr), Rg k (A.deeper (envOfC qual (defScope st) s.heap.objs.size f cdv)) →
      ∃ ws, PSs (cxOf CX0 P w W.K mg base N qual (defScope st) f cdv A env s H E).nox (defBody st) (uS ⟨W, RR b c, N0, H⟩ kc ws) ∧ ∀ ds Φ, F ds Φ → ws (retX Φ) (ev1 N.length ds)) :
    FnG P w W.K mg base CX0 (k + 1) f fd ps (spN W RR kc ps.length F) := by
  refine FnG.mk' Fn S (fun vs H Q E h => ?_) fun cdv A env s H vs Q E hr h => ?_
  · obtain ⟨b, c, m, N', ds, vs', Φ, _, _, hl, _⟩ := h
    exact hl
  · obtain ⟨b, c, m, N', ds, vs', Φ, hm, rfl, hl, hI, ra, al, im, hF, q⟩ := h
    obtain ⟨ws, pt, hw⟩ := body cdv A env s H E N' b c hr
    refine ⟨_, pt.nox, m, [], _, _, retX Φ, hm, sta_startR (G := Gf.at ⟨W, RR b c, N', H⟩ m) (by have := len ds Φ hF; omega) hI al ra im, hw ds Φ hF, ?_, ?_, ?_, ?_⟩
    · exact fun O2 σ2 H2 ρ2 S2 z => q .non H2 .none z rfl S2.kp S2.inv
    · exact fun v H2 d z mm kk i => q v H2 d z mm kk i
    · exact fun O2 σ2 H2 ρ2 S2 z => z
    · exact fun O2 σ2 H2 ρ2 S2 z => z
/-- the same with lambdas in it -/
theorem ok_drawNL (Fn : Fun W.K x qual st f fd) (ca : CodeAt W.K f cL) (S : FnScope N ps (defScope st)) (hn : ps.length ≤ N.length) (len : ∀ ds Φ, F ds Φ → ds.length + 1 = ps.length)
    (body : ∀ (A : Around) (env : List Env) (s : Shared) (H : Hp) (E : XK) (N0 : Addr → Prop) (b c : Addr), Rg k (A.deeper (envOfC qual (defScope st) s.heap.objs.size f (.ref cL))) →
      ∃ ws, PSs (cxOf CX0 P w W.K mg base N qual (defScope st) f (.ref cL) A env s H E).nox (defBody st) (uS ⟨W, RR b c, N0, H⟩ kc ws) ∧ ∀ ds Φ, F ds Φ → ws (retX Φ) (ev1 N.length ds)) :
    FnG P w W.K mg base CX0 (k + 1) f fd ps (spN W RR kc ps.length F) := by
  refine FnG.mkL Fn ca S (fun vs H Q E h => ?_) fun A env s H vs Q E hr h => ?_
  · obtain ⟨b, c, m, N', ds, vs', Φ, _, _, hl, _⟩ := h
    exact hl
  · obtain ⟨b, c, m, N', ds, vs', Φ, hm, rfl, hl, hI, ra, al, im, hF, q⟩ := h
    obtain ⟨ws, pt, hw⟩ := body A env s H E N' b c hr
    refine ⟨_, pt.nox, m, [], _, _, retX Φ, hm, sta_startR (G := Gf.at ⟨W, RR b c, N', H⟩ m) (by have := len ds Φ hF; omega) hI al ra im, hw ds Φ hF, ?_, ?_, ?_, ?_⟩
    · exact fun O2 σ2 H2 ρ2 S2 z => q .non H2 .none z rfl S2.kp S2.inv
    · exact fun v H2 d z mm kk i => q v H2 d z mm kk i
    · exact fun O2 σ2 H2 ρ2 S2 z => z
    · exact fun O2 σ2 H2 ρ2 S2 z => z
end
end DL

namespace DL
open PySem PySem.Spec PyProof.Rows L2 LamX

abbrev FB := List Int → List PyData → (PyData → Prop) → Prop
def spB (W : Wd) (n : Nat) (F : FB) : Sp := fun vs H Q _ => ∃ (a : Addr) (N : Addr → Prop) (ns : List Int) (ds : List PyData) (vs' : List V) (Φ : PyData → Prop), vs = .ref a :: vs' ∧ vs.length = n ∧ SqS W.K H a (ns.map V.int) ∧ (∀ a, N a → ∃ o, H a = some o) ∧ ImA W N H ds vs' ∧ F ns ds Φ ∧
  ∀ v H' d, Φ d → Im W N H' d v → Keep (fun _ => False) H H' → Q v H'
def evB (n : Nat) (ns : List Int) (ds : List PyData) : Ev := .s ns :: (ds.map .d ++ List.replicate (n - (ds.length + 1)) .u)
theorem sta_startB {G : Gx} {ns : List Str} {is : List Int} {a : Addr} {ds : List PyData} {vs : List V} (hl : ds.length + 1 ≤ ns.length) (hI : G.R.I G.H0) (al : ∀ a, G.A a → ∃ o, G.H0 a = some o) (ra : ∀ a, G.R.M a → G.A a) (hs : SqS G.W.K G.H0 a (is.map V.int)) (im : ImA G.W G.A G.H0 ds vs) :
    Sta G [] (fun _ => none) (start ns (.ref a :: vs)) G.H0 (evB ns.length is ds) := by
  have lv := ImA.length im
  have avo : ∀ {d v}, Im G.W G.A G.H0 d v → Im G.W (Nv G.A fun _ => none) G.H0 d v := fun {d v} m => Im.avoid (fun a o _ z => z.elim id fun ⟨i, e⟩ => nomatch e) d v m
  refine ⟨hI, Keep.refl _, al, ra, fun i p e => (nomatch e), fun i j p e => (nomatch e), ⟨0, fun _ _ => rfl⟩, fun i p e => (nomatch e), ?_, fun i => ?_, fun p hp => (nomatch hp)⟩
  · unfold L2.start evB
    simp only [List.length_append, List.length_map, List.length_replicate, List.length_cons, lv]
    omega
  · cases i with
    | zero => exact ⟨a, rfl, hs⟩
    | succ i =>
      rw [nth_ev]
      unfold evB
      rw [List.getElem?_cons_succ]
      by_cases hi : i < ds.length
      · rw [List.getElem?_append_left (by simpa using hi), List.getElem?_map, List.getElem?_eq_getElem hi]
        obtain ⟨v, hv, m⟩ := ImA.get im (List.getElem?_eq_getElem hi)
        refine ⟨v, ?_, avo m⟩
        unfold L2.start
        rw [List.getElem?_append_left (by simp; omega), List.getElem?_map, List.getElem?_cons_succ, hv]
        rfl
      · rw [List.getElem?_append_right (by simpa using hi), List.getElem?_replicate]
        split <;> trivial
section
variable {P : Program} {w : World} {mg : Str → Option Value} {base : Heap} {W : Wd} {k : Nat} {f : Addr} {fd : FuncData} {ps N : List Str} {x qual : Str} {st : Stmt} {F : FB}
theorem ok_scriptD (Fn : Fun W.K x qual st f fd) (S : FnScope N ps (defScope st)) (hn : ps.length ≤ N.length) (len : ∀ ns ds Φ, F ns ds Φ → ds.length + 1 = ps.length)
    (body : ∀ (cdv : Value) (A : Around) (env : List Env) (s : Shared) (H : Hp) (E : XK) (N0 : Addr → Prop), Rg k (A.deeper (envOfC qual (defScope st) s.heap.objs.size f cdv)) →
      ∃ ws, PSs (cxOf CX0 P w W.K mg base N qual (defScope st) f cdv A env s H E).nox (defBody st) (upS ⟨W, Res.none, N0, H⟩ ws) ∧ ∀ ns ds Φ, F ns ds Φ → ws (retX Φ) (evB N.length ns ds)) :
    FnG P w W.K mg base CX0 (k + 1) f fd ps (spB W ps.length F) := by
  refine FnG.mk' Fn S (fun vs H Q E h => ?_) fun cdv A env s H vs Q E hr h => ?_
  · obtain ⟨a, N', ns, ds, vs', Φ, _, hl, _⟩ := h
    exact hl
  · obtain ⟨a, N', ns, ds, vs', Φ, rfl, hl, hs, al, im, hF, q⟩ := h
    obtain ⟨ws, pt, hw⟩ := body cdv A env s H E N' hr
    refine ⟨_, pt.nox, [], _, _, retX Φ, sta_startB (G := ⟨W, Res.none, N', H⟩) (by have := len ns ds Φ hF; omega) True.intro al (fun a z => z.elim) hs im, hw ns ds Φ hF, ?_, ?_, ?_, ?_⟩
    · exact fun O2 σ2 H2 ρ2 S2 z => q .non H2 .none z rfl S2.kp
    · exact fun v H2 d z m kk _ => q v H2 d z m kk
    · exact fun O2 σ2 H2 ρ2 S2 z => z
    · exact fun O2 σ2 H2 ρ2 S2 z => z
end
/-- three integers: an amount, a stir and the number of draws so far -/
def BoxAt (b : Addr) (n : Nat) (H : Hp) : Prop := ∃ g st ct : Int, H b = some (.lst [.int g, .int st, .int ct]) ∧ 0 ≤ g ∧ 0 ≤ st ∧ st < 2147483648 ∧ 0 ≤ ct ∧ ct + n ≤ 1099511627776
def bxN (T : List (Addr × Str)) (b _c : Addr) : ResN where
  M := fun a => a = b ∨ ∃ p ∈ T, a = p.1
  I := fun n H => BoxAt b n H ∧ Tabs T H ∧ ∀ p ∈ T, p.1 ≠ b
  b := b
  st := fun n H H' ⟨⟨g, s, t, h1, r⟩, h2, h3⟩ q => ⟨⟨g, s, t, q b _ (.inl (.inl rfl)) h1, r⟩, tabs_stay h2 fun a o n e => q a o (.inr n) e, h3⟩
  al := fun n H a ⟨⟨g, s, t, h1, r⟩, h2, h3⟩ m => by
    rcases m with rfl | ⟨p, hp, rfl⟩
    · exact ⟨_, h1⟩
    · obtain ⟨ps, e, _⟩ := h2 p hp
      exact ⟨_, e⟩
  mono := fun n m H ⟨⟨g, s, t, h1, h4, h5, h6, h7, h8⟩, h2, h3⟩ l => ⟨⟨g, s, t, h1, h4, h5, h6, h7, by omega⟩, h2, h3⟩
theorem bxN_res (T : List (Addr × Str)) (b c : Addr) (n : Nat) : ResT T ((bxN T b c).at n) := ⟨fun G h => h.2.1, fun p hp => .inr ⟨p, hp, rfl⟩, fun G G1 P hP h k t => by
  obtain ⟨⟨g, s, ct, h1, r⟩, h3, h4⟩ := h
  obtain ⟨p, hp, rfl⟩ := hP
  exact ⟨⟨g, s, ct, k.ob b _ h1 (fun z => h4 p hp z.symm), r⟩, t, h4⟩⟩
/-- tables alone -/
def tabR (T : List (Addr × Str)) : Res where
  M := fun a => ∃ p ∈ T, a = p.1
  I := fun H => Tabs T H
  b := 0
  st := fun H H' h2 q => tabs_stay h2 fun a o n e => q a o (.inr n) e
  al := fun H a h2 m => by
    obtain ⟨p, hp, rfl⟩ := m
    obtain ⟨ps, e, _⟩ := h2 p hp
    exact ⟨_, e⟩
theorem tabR_res (T : List (Addr × Str)) : ResT T (tabR T) := ⟨fun G h => h, fun p hp => ⟨p, hp, rfl⟩, fun G G1 P hP h k t => t⟩
/-- what makes a drawn state gives back -/
def BoxOk (d : PyData) : Prop := ∃ g st : Int, d = .list [.int g, .int st, .int 0] ∧ 0 ≤ g ∧ 0 ≤ st ∧ st < 2147483648
theorem box_made {W : Wd} {H H' : Hp} {d : PyData} {v : V} (h : BoxOk d) (im : Im W (fun a => ∃ o, H a = some o) H' d v) : ∃ b, v = .ref b ∧ H b = none ∧ BoxAt b 1099511627776 H' := by
  obtain ⟨g, st, rfl, h1, h2, h3⟩ := h
  obtain ⟨b, xs, rfl, e1, n1, m1⟩ := im
  obtain ⟨v1, r1, rfl, m2, m3⟩ := m1
  obtain ⟨v2, r2, rfl, m4, m5⟩ := m3
  obtain ⟨v3, r3, rfl, m6, m7⟩ := m5
  cases m7
  obtain rfl : v1 = .int g := m2
  obtain rfl : v2 = .int st := m4
  obtain rfl : v3 = .int 0 := m6
  refine ⟨b, rfl, ?_, g, st, 0, e1, h1, h2, h3, Int.le_refl _, by omega⟩
  cases z : H b with
  | none => rfl
  | some o => exact absurd ⟨o, z⟩ n1
def wBoxed (n ik ib : Nat) (Fb : FB) (ws : WS) : WS := fun W ρ => ∃ (ns : List Int) (k : Int), ρ = put (evS n ns) ik (.d (.int k)) ∧ Fb ns [.int k] BoxOk ∧
  ws ⟨fun ρ' => nth ρ' 0 = .s ns ∧ ρ'.length = n ∧ W.nx (evS n ns), fun _ => False, fun _ => False, fun _ => False⟩ (put ρ ib .m)
theorem evS_len {n : Nat} {ns : List Int} (h : 1 ≤ n) : (evS n ns).length = n := by
  unfold evS
  rw [List.length_cons, List.length_replicate]
  omega
theorem evS_0 {n : Nat} {ns : List Int} : nth (evS n ns) 0 = .s ns := rfl
theorem evS_u {n : Nat} {ns : List Int} {i : Nat} (h : i ≠ 0) : nth (evS n ns) i = .u := by
  cases i with
  | zero => exact absurd rfl h
  | succ i =>
    rw [nth_ev]
    unfold evS
    rw [List.getElem?_cons_succ, List.getElem?_replicate]
    split <;> rfl
section
variable {T : List (Addr × Str)} {W : Wd} {H0 H H' : Hp} {an : List (PyData × V)} {O : Nat → Option Addr} {σ : L2.St} {n ik ib : Nat} {ns : List Int} {k : Int} {b : Addr}
/-- the state behind the new drawn state -/
theorem sta_boxed (S : Sta ⟨W, tabR T, (tabR T).M, H0⟩ an O σ H (put (evS n ns) ik (.d (.int k)))) (kp : Keep (fun _ => False) H H') (hb : H b = none) (bx : BoxAt b 1099511627776 H') {c m : Nat} (hm : m ≤ 1099511627776)
    (h0k : ik ≠ 0) (h0b : ib ≠ 0) (hik : ik < n) (hib : ib < n) (hkb : ik ≠ ib) :
    Sta (Gf.at ⟨W, bxN T b c, (bxN T b c).M, H'⟩ m) [] (fun _ => none) (σ.set ib (some (.ref b))) H' (put (put (evS n ns) ik (.d (.int k))) ib .m) := by
  have hn : 1 ≤ n := by omega
  have ln : (put (evS n ns) ik (.d (.int k))).length = n := by rw [put_len, evS_len hn]
  have hσ : σ.length = n := by rw [S.len, ln]
  have tn : ∀ p ∈ T, p.1 ≠ b := fun p hp e => by
    obtain ⟨ps, z, _⟩ := S.inv p hp
    rw [e, hb] at z
    cases z
  have I : (bxN T b c).I m H' := (bxN T b c).mono 1099511627776 m H' ⟨bx, tabs_stay S.inv fun a o _ e => kp.ob a o e fun z => z, tn⟩ hm
  refine ⟨I, Keep.refl _, fun a z => (bxN T b c).al m H' a I z, fun _ z => z, fun i p e => (nomatch e), fun i j p e => (nomatch e), ⟨0, fun _ _ => rfl⟩, fun i p e => (nomatch e), ?_, fun i => ?_, fun p hp => (nomatch hp)⟩
  · rw [List.length_set, put_len, ln, hσ]
  · by_cases h1 : i = ib
    · rw [h1, nth_put_same (by rw [ln]; exact hib)]
      show (σ.set ib (some (V.ref b)))[ib]? = _
      rw [List.getElem?_set_self (by omega)]
      rfl
    · rw [nth_put_ne h1]
      have en := S.en i
      by_cases h2 : i = ik
      · rw [h2, nth_put_same (by rw [evS_len hn]; exact hik)] at en ⊢
        obtain ⟨v, e1, im⟩ := en
        exact ⟨v, by rw [List.getElem?_set_ne (by omega)]; exact e1, im⟩
      · rw [nth_put_ne h2] at en ⊢
        by_cases h3 : i = 0
        · rw [h3] at en ⊢
          obtain ⟨a, e1, e2⟩ := en
          exact ⟨a, by rw [List.getElem?_set_ne (by omega)]; exact e1, e2.keep kp⟩
        · rw [evS_u h3]
          trivial
/-- the drawn state is forgotten -/
theorem sta_unbox (S : Sta ⟨W, tabR T, (tabR T).M, H0⟩ an O σ H (put (evS n ns) ik (.d (.int k)))) (kp : Keep (fun _ => False) H H') (hb : H b = none) {c m : Nat} {an' : List (PyData × V)} {O' : Nat → Option Addr} {σ2 : L2.St} {H2 : Hp} {ρ2 : Ev}
    (S2 : Sta (Gf.at ⟨W, bxN T b c, (bxN T b c).M, H'⟩ m) an' O' σ2 H2 ρ2) (hs : nth ρ2 0 = .s ns) (hl : ρ2.length = n) (hn : 1 ≤ n) :
    Sta ⟨W, tabR T, (tabR T).M, H0⟩ an (fun _ => none) σ2 H2 (evS n ns) := by
  have kk : Keep (tabR T).M H H2 := ⟨fun a o e nm => S2.kp.ob a o (kp.ob a o e fun z => z) fun z => z.elim (fun z => by rw [z, hb] at e; cases e) nm, fun a xs e => S2.kp.tp a xs (kp.tp a xs e), fun a o u e => S2.kp.fz a o u (kp.fz a o u e)⟩
  refine ⟨S2.inv.2.1, S.kp.trans kk, S.al, S.ra, fun i p e => (nomatch e), fun i j p e => (nomatch e), ⟨0, fun _ _ => rfl⟩, fun i p e => (nomatch e), by rw [S2.len, hl, evS_len hn], fun i => ?_, fun p hp => ?_⟩
  · by_cases h3 : i = 0
    · have en := S2.en 0
      rw [hs] at en
      rw [h3, evS_0]
      exact en
    · rw [evS_u h3]
      trivial
  · have im := Im.keep (kk.mono fun a m => Or.inl (S.ra a m)) _ _ (S.as p hp)
    exact Im.avoid (fun a o _ z => z.elim .inl fun ⟨i, e⟩ => nomatch e) _ _ im
end
section
variable {X : Cx} {W : Wd} {T : List (Addr × Str)} {H0 : Hp} {Fb : FB} {ws : WS} {rest : List Stmt} {kk j n ik ib K : Nat} {st : Stmt} {ps : List Str} {x y z fb : Str} {px py pz p pos spos : Pos}
theorem dss_boxed (C : Cal X.prog X.w W.K X.mg X.base kk fb st ps (spB W ps.length Fb)) (hK : X.K = W.K) (hr : Rg j X.A) (hb : KbS fb st ps [] 2 [0, 1]) (hkj : kk ≤ j) (hg : Gl X fb) (nd : X.N.Nodup)
    (hrest : ∀ b H', PSs X rest (uS ⟨W, bxN T b b, (bxN T b b).M, H'⟩ K ws)) (hKm : K ≤ 1099511627776) (h2 : ps.length = 2)
    (hx : X.N[0]? = some x) (hy : X.N[ik]? = some y) (hz : X.N[ib]? = some z) (h0k : ik ≠ 0) (h0b : ib ≠ 0) (hik : ik < n) (hib : ib < n) (hkb : ik ≠ ib)
    (vx : Vis X.env.scope x := by first | exact Or.inl rfl | exact Or.inr (Or.inl rfl) | exact Or.inr (Or.inr rfl)) (vy : Vis X.env.scope y := by first | exact Or.inl rfl | exact Or.inr (Or.inl rfl) | exact Or.inr (Or.inr rfl)) (lz : Loc X.env.scope z := by first | exact Or.inl rfl | exact Or.inr rfl)
    (d1 : (x == ("__debug__" : Str)) = false := by decide) (d2 : (x == ("__classdict__" : Str)) = false := by decide) (d3 : (y == ("__debug__" : Str)) = false := by decide) (d4 : (y == ("__classdict__" : Str)) = false := by decide)
    (hdb : (fb == ("__debug__" : Str)) = false := by decide) (he : starEach [.Name x px, .Name y py] X.env = (false, eval (.Name x px) X.env) :: starEach [.Name y py] X.env := by rfl) (he2 : starEach [.Name y py] X.env = (false, eval (.Name y py) X.env) :: starEach [] X.env := by rfl) (hpl : (backTo pos (starEach [.Name y py] X.env)).any (·.1) = false := by rfl)
    (hs : swapsWith (.Call (.Name fb p) [.Name x px, .Name y py] [] pos) (some (.Name z pz)) spos.line X.env = pure false := by rfl)
    (hf : X.fn z = true ∨ X.env.scope.names.lookup z = some .local := by first | exact .inl rfl | exact .inr rfl | assumption) :
    PSs X (.Assign [.Name z pz] (.Call (.Name fb p) [.Name x px, .Name y py] [] pos) spos :: rest) (upS ⟨W, tabR T, (tabR T).M, H0⟩ (wBoxed n ik ib Fb ws)) := by
  obtain ⟨f, fd, Fn, hm, Fg⟩ := C.ex
  rw [← hK] at Fn Fg
  have der := pss_cons (ps_set (i := ib) nd hz lz (pe_callGP (E := fun _ _ _ => False) Fg (hr.mono hkj) (Kb.of Fn hb) pass0 hg hm Fn.kp (pa_cons (pe_var (i := 0) hx vx d1 d2) (pa_cons (pe_var (i := ik) hy vy d3 d4) pa_nil he2) he) hdb he hpl) hs hf)
    (pss_ex (ι := Addr × Hp) fun i => hrest i.1 i.2)
  refine pss_weak der fun D σ H ⟨an, O, ρ, Wx, S, hw, q1, q2, q3, q4⟩ => ?_
  obtain ⟨ns, k, rfl, hF, hw⟩ := hw
  have hn : 1 ≤ n := by omega
  have e0 := S.en 0
  rw [nth_put_ne (Ne.symm h0k), evS_0] at e0
  obtain ⟨a, e0, hS⟩ := e0
  have ek := S.en ik
  rw [nth_put_same (by rw [evS_len hn]; exact hik)] at ek
  obtain ⟨v, ek, iv⟩ := ek
  obtain rfl : v = .int k := iv
  refine ⟨_, e0, _, ek, rfl, rfl, a, fun c => ∃ o, H c = some o, ns, [.int k], [.int k], BoxOk, rfl, h2.symm, hS, fun _ z => z, ⟨_, _, rfl, rfl, rfl⟩, hF, fun v H1 d hd im kp => ?_⟩
  obtain ⟨b, rfl, hbn, bx⟩ := box_made hd im
  have S1 := sta_boxed (c := b) (m := K) S kp hbn bx hKm h0k h0b hik hib hkb
  refine ⟨(b, H1), K, [], _, _, _, Nat.le_refl _, S1, hw, ?_, fun _ _ _ z => z.elim, fun _ _ _ _ _ z => z.elim, fun _ _ _ _ _ z => z.elim⟩
  rintro O' σ' H' ρ' S' ⟨z1, z2, z3⟩
  exact q1 _ _ _ _ (sta_unbox S kp hbn S' z1 z2 hn) z3
end
end DL
namespace DL
open PySem PySem.Spec PyProof.Rows L2 LamX
def forBody : Stmt → List Stmt
  | .For _ _ b _ _ => b
  | _ => []
/-- the three integers on their way -/
structure Bd (T : List (Addr × Str)) (b c : Addr) (H0 H : Hp) (xs : List V) : Prop where
  kp : Keep (bxN T b c).M H0 H
  hb : H b = some (.lst xs)
  tb : Tabs T H
  ne : ∀ p ∈ T, p.1 ≠ b
theorem Bd.set {T : List (Addr × Str)} {b c : Addr} {H0 H : Hp} {xs : List V} (D : Bd T b c H0 H xs) (ys : List V) : Bd T b c H0 (upd H b (.lst ys)) ys :=
  ⟨D.kp.trans (Keep.set D.hb (.inl rfl)), upd_same, tabs_stay D.tb fun a o n e => by rw [upd_ne (fun z => by rw [z, D.hb] at e; exact n _ (Option.some.inj e).symm)]; exact e, D.ne⟩
theorem Bd.I {T : List (Addr × Str)} {b c : Addr} {H0 H : Hp} {g s t : Int} {n : Nat} (D : Bd T b c H0 H [.int g, .int s, .int t]) (h1 : 0 ≤ g) (h2 : 0 ≤ s) (h3 : s < 2147483648) (h4 : 0 ≤ t) (h5 : t + n ≤ 1099511627776) : (bxN T b c).I n H :=
  ⟨⟨g, s, t, D.hb, h1, h2, h3, h4, h5⟩, D.tb, D.ne⟩
end DL

namespace DL
open PySem PySem.Spec PyProof.Rows L2 LamX
section
variable {X : Cx} {G : Gx} {pos p : Pos} {s : Bool} {e : Expr} {es : List Expr} {wr wk : WA} {kws : List Keyword} {x : Str} {k n j : Nat} {ps ks : List Str} {F : FXM} {idx : List Nat} {st : Stmt} {er : Errs}
/-- a call by place and by name of a def that may raise, where it does not -/
theorem de_callXMPK (Cl : CalX X.prog X.w G.W.K X.mg X.base k x st ps (spXM G.W er ps.length F)) (hK : X.K = G.W.K) (hr : Rg j X.A) (hb : KbS x st ps ks n idx) (hkj : k ≤ j) (hg : Gl X x) (ha : PA X (e :: es) (upA G s wr)) (hkw : PK X kws (upA G s wk)) (hp : (perm idx (List.range (n + ks.length))).length = ps.length := by rfl)
    (hall : (backToKw pos (keywordEach kws X.env)).all (·.1.isSome) = true := by rfl) (hks : (backToKw pos (keywordEach kws X.env)).filterMap (·.1) = ks := by rfl) (hdb : (x == ("__debug__" : Str)) = false := by decide)
    (he : starEach (e :: es) X.env = (false, eval e X.env) :: starEach es X.env := by rfl) (hpl : ((backTo pos (starEach (e :: es) X.env)).any (·.1) || (backToKw pos (keywordEach kws X.env)).any (·.1.isNone)) = false := by rfl) :
    PE X (.Call (.Name x p) (e :: es) kws pos) (up G s (wG (noRaiseM F) n ks.length idx wr wk)) := by
  obtain ⟨f, fd, Fn, hm, Fg⟩ := Cl.ex
  rw [← hK] at Fn Fg
  exact pe_weak (pe_callGK (E := fun _ _ _ => False) Fg (hr.mono hkj) (Kb.of Fn hb) passX hg hm Fn.kp ha hkw hall hks hdb he hpl) fun σ H Q h => up_XM (E := fun _ _ _ => False) (er := er) hp σ H Q h
end
/-- a if c else b as a test -/
def wIfT (wt wa wb : WT) : WT := fun ρ Φ => wt ρ fun c => if c = true then wa ρ Φ else wb ρ Φ
theorem pt_ifT {X : Cx} {c a b : Expr} {pos : Pos} {tc ta tb : TT} (hc : PT X c tc) (ha : PT X a ta) (hb : PT X b tb) : PT X (.IfExp c a b pos) (fun σ H Q => tc σ H fun d H1 => if d = true then ta σ H1 Q else tb σ H1 Q) := by
  refine ⟨fun pins s σ H Q I h => ?_⟩
  refine isTrue_IfExp (thn (hc.run pins s σ H _ I h) fun d s1 ⟨H1, I1, q1⟩ => ?_)
  cases d with
  | true => exact ha.run pins s1 σ H1 Q I1 (by rw [if_pos rfl] at q1; exact q1)
  | false => exact hb.run pins s1 σ H1 Q I1 (by rw [if_neg Bool.false_ne_true] at q1; exact q1)
theorem dt_ifT {X : Cx} {G : Gx} {c a b : Expr} {pos : Pos} {wt wa wb : WT} (hc : PT X c (upT G wt)) (ha : PT X a (upT G wa)) (hb : PT X b (upT G wb)) : PT X (.IfExp c a b pos) (upT G (wIfT wt wa wb)) := pt_weak (pt_ifT hc ha hb) fun σ H Q ⟨an, O, ρ, Φ, S, h, q⟩ => by
  refine ⟨an, O, ρ, _, S, h, fun c H1 h1 k1 i1 => ?_⟩
  cases c with
  | true =>
    rw [if_pos rfl] at h1 ⊢
    exact ⟨an, O, ρ, Φ, S.keep k1 i1, h1, fun v2 H2 p2 k2 i2 => q v2 H2 p2 (k1.trans k2) i2⟩
  | false =>
    rw [if_neg Bool.false_ne_true] at h1 ⊢
    exact ⟨an, O, ρ, Φ, S.keep k1 i1, h1, fun v2 H2 p2 k2 i2 => q v2 H2 p2 (k1.trans k2) i2⟩
end DL
namespace DL
open PySem PySem.Spec PyProof.Rows L2
def CDivZ (_ j : Int) : Prop := j ≠ 0 ∧ j.natAbs.log2 < 9000
theorem op_fdivZ {X : Cx} : OpR X (binaryOp .FloorDiv) (rI CDivZ fun i j => .int (i.fdiv j)) := opI fun _ _ _ _ _ _ _ hc q => floordiv_int hc.1 q (.inl (PyProof.noPylong_of_log2 hc.2))
def fDivZ : PyData → PyData → (PyData → Prop) → Prop := fII (fun _ j => j ≠ 0 ∧ j.natAbs.log2 < 9000) fun i j => .int (i.fdiv j)
theorem od_divZ {G : Gx} {s s1 s2 : Bool} : OpD G s s1 s2 (rI CDivZ fun i j => .int (i.fdiv j)) fDivZ := od_int fun _ _ _ _ => rfl
end DL

namespace K03
open PySem PySem.Spec PyProof.Rows L2 LamX DL
abbrev topS (i : Nat) : Stmt := PySem.Challenge.pw_rowalone_k03_whole_simplest_fractions.main.body.getD i (.Pass ⟨0, 0, 0, 0⟩)
abbrev s_is_whole : Stmt := topS 6
abbrev s_fraction_of : Stmt := topS 8
abbrev s_is_fraction : Stmt := topS 9
abbrev s_plus : Stmt := topS 10
abbrev s_minus : Stmt := topS 11
abbrev s_times : Stmt := topS 12
abbrev s_ratio : Stmt := topS 13
abbrev s_less : Stmt := topS 14
abbrev s_least_of : Stmt := topS 15
abbrev s_greatest_of : Stmt := topS 16
abbrev s_weighed : Stmt := topS 17
abbrev s_negative : Stmt := topS 18
abbrev s__simplest_above : Stmt := topS 20
abbrev s_simplest : Stmt := topS 19
abbrev s__law_box : Stmt := topS 22
abbrev s__law_pick : Stmt := topS 24
abbrev s__law_common : Stmt := topS 26
abbrev s__law_least : Stmt := topS 27
abbrev s__law_fraction : Stmt := topS 28
abbrev s__law_is : Stmt := topS 29
abbrev s__law_truth : Stmt := topS 30
abbrev s__law_equals : Stmt := topS 31
abbrev s__law_way : Stmt := topS 33
abbrev s__law_end : Stmt := topS 34
abbrev s__law_turn : Stmt := topS 35
abbrev s__law_none_less : Stmt := topS 36
abbrev s__law_ranges_right : Stmt := topS 37
abbrev s__law_odd : Stmt := topS 38
abbrev s__law_near_right : Stmt := topS 39
abbrev s_law : Stmt := topS 40
abbrev s__law_take : Stmt := topS 23
theorem kb__law_box_2 : KbS "_law_box" s__law_box ["_law_script", "_law_k"] [] 2 [0, 1] := fun _ _ _ _ _ _ us ws h1 h2 => match us, ws, h1, h2 with | [_, _], [], _, _ => rfl
theorem kb__law_common_1 : KbS "_law_common" s__law_common ["_law_numbers"] [] 1 [0] := fun _ _ _ _ _ _ us ws h1 h2 => match us, ws, h1, h2 with | [_], [], _, _ => rfl
theorem kb__law_end_3 : KbS "_law_end" s__law_end ["_law_box_here", "_law_middle", "_law_side"] [] 3 (List.range ["_law_box_here", "_law_middle", "_law_side"].length) := fun _ _ _ _ _ _ us ws h1 h2 => match us, ws, h1, h2 with | [_, _, _], [], _, _ => rfl
theorem kb__law_equals_3 : KbS "_law_equals" s__law_equals ["_law_value", "_law_top", "_law_bottom"] [] 3 [0, 1, 2] := fun _ _ _ _ _ _ us ws h1 h2 => match us, ws, h1, h2 with | [_, _, _], [], _, _ => rfl
theorem kb__law_fraction_1 : KbS "_law_fraction" s__law_fraction ["_law_box_here"] [] 1 (List.range ["_law_box_here"].length) := fun _ _ _ _ _ _ us ws h1 h2 => match us, ws, h1, h2 with | [_], [], _, _ => rfl
theorem kb__law_is_1 : KbS "_law_is" s__law_is ["_law_value"] [] 1 [0] := fun _ _ _ _ _ _ us ws h1 h2 => match us, ws, h1, h2 with | [_], [], _, _ => rfl
theorem kb__law_least_2 : KbS "_law_least" s__law_least ["_law_coefficients", "_law_bound"] [] 2 [0, 1] := fun _ _ _ _ _ _ us ws h1 h2 => match us, ws, h1, h2 with | [_, _], [], _, _ => rfl
theorem kb__law_near_right_1 : KbS "_law_near_right" s__law_near_right ["_law_box_here"] [] 1 (List.range ["_law_box_here"].length) := fun _ _ _ _ _ _ us ws h1 h2 => match us, ws, h1, h2 with | [_], [], _, _ => rfl
theorem kb__law_none_less_3 : KbS "_law_none_less" s__law_none_less ["_law_found", "_law_low", "_law_high"] [] 3 [0, 1, 2] := fun _ _ _ _ _ _ us ws h1 h2 => match us, ws, h1, h2 with | [_, _, _], [], _, _ => rfl
theorem kb__law_odd_2 : KbS "_law_odd" s__law_odd ["_law_box_here", "_law_one"] [] 2 (List.range ["_law_box_here", "_law_one"].length) := fun _ _ _ _ _ _ us ws h1 h2 => match us, ws, h1, h2 with | [_, _], [], _, _ => rfl
theorem kb__law_pick_2 : KbS "_law_pick" s__law_pick ["_law_box_here", "_law_some"] [] 2 (List.range ["_law_box_here", "_law_some"].length) := fun _ _ _ _ _ _ us ws h1 h2 => match us, ws, h1, h2 with | [_, _], [], _, _ => rfl
theorem kb__law_ranges_right_1 : KbS "_law_ranges_right" s__law_ranges_right ["_law_box_here"] [] 1 (List.range ["_law_box_here"].length) := fun _ _ _ _ _ _ us ws h1 h2 => match us, ws, h1, h2 with | [_], [], _, _ => rfl
theorem kb__law_take_2 : KbS "_law_take" s__law_take ["_law_box_here", "_law_many"] [] 2 (List.range ["_law_box_here", "_law_many"].length) := fun _ _ _ _ _ _ us ws h1 h2 => match us, ws, h1, h2 with | [_, _], [], _, _ => rfl
theorem kb__law_truth_2 : KbS "_law_truth" s__law_truth ["_law_value", "_law_due"] [] 2 [0, 1] := fun _ _ _ _ _ _ us ws h1 h2 => match us, ws, h1, h2 with | [_, _], [], _, _ => rfl
theorem kb__law_turn_1 : KbS "_law_turn" s__law_turn ["_law_end_here"] [] 1 [0] := fun _ _ _ _ _ _ us ws h1 h2 => match us, ws, h1, h2 with | [_], [], _, _ => rfl
theorem kb__law_way_1 : KbS "_law_way" s__law_way ["_law_box_here"] [] 1 (List.range ["_law_box_here"].length) := fun _ _ _ _ _ _ us ws h1 h2 => match us, ws, h1, h2 with | [_], [], _, _ => rfl
theorem kb__simplest_above_2 : KbS "_simplest_above" s__simplest_above ["low", "high"] [] 2 [0, 1] := fun _ _ _ _ _ _ us ws h1 h2 => match us, ws, h1, h2 with | [_, _], [], _, _ => rfl
theorem kb_fraction_of_0_bottom_top : KbS "fraction_of" s_fraction_of ["top", "bottom"] ["bottom", "top"] 0 [1, 0] := fun _ _ _ _ _ _ us ws h1 h2 => match us, ws, h1, h2 with | [], [_, _], _, _ => rfl
theorem kb_fraction_of_2 : KbS "fraction_of" s_fraction_of ["top", "bottom"] [] 2 [0, 1] := fun _ _ _ _ _ _ us ws h1 h2 => match us, ws, h1, h2 with | [_, _], [], _, _ => rfl
theorem kb_greatest_of_0_some : KbS "greatest_of" s_greatest_of ["some"] ["some"] 0 [0] := fun _ _ _ _ _ _ us ws h1 h2 => match us, ws, h1, h2 with | [], [_], _, _ => rfl
theorem kb_greatest_of_1 : KbS "greatest_of" s_greatest_of ["some"] [] 1 [0] := fun _ _ _ _ _ _ us ws h1 h2 => match us, ws, h1, h2 with | [_], [], _, _ => rfl
theorem kb_is_fraction_0_value : KbS "is_fraction" s_is_fraction ["value"] ["value"] 0 [0] := fun _ _ _ _ _ _ us ws h1 h2 => match us, ws, h1, h2 with | [], [_], _, _ => rfl
theorem kb_is_fraction_1 : KbS "is_fraction" s_is_fraction ["value"] [] 1 [0] := fun _ _ _ _ _ _ us ws h1 h2 => match us, ws, h1, h2 with | [_], [], _, _ => rfl
theorem kb_is_whole_1 : KbS "is_whole" s_is_whole ["value"] [] 1 [0] := fun _ _ _ _ _ _ us ws h1 h2 => match us, ws, h1, h2 with | [_], [], _, _ => rfl
theorem kb_least_of_0_some : KbS "least_of" s_least_of ["some"] ["some"] 0 [0] := fun _ _ _ _ _ _ us ws h1 h2 => match us, ws, h1, h2 with | [], [_], _, _ => rfl
theorem kb_least_of_1 : KbS "least_of" s_least_of ["some"] [] 1 [0] := fun _ _ _ _ _ _ us ws h1 h2 => match us, ws, h1, h2 with | [_], [], _, _ => rfl
theorem kb_less_0_other_one : KbS "less" s_less ["one", "other"] ["other", "one"] 0 [1, 0] := fun _ _ _ _ _ _ us ws h1 h2 => match us, ws, h1, h2 with | [], [_, _], _, _ => rfl
theorem kb_less_2 : KbS "less" s_less ["one", "other"] [] 2 [0, 1] := fun _ _ _ _ _ _ us ws h1 h2 => match us, ws, h1, h2 with | [_, _], [], _, _ => rfl
theorem kb_minus_0_one_other : KbS "minus" s_minus ["one", "other"] ["one", "other"] 0 [0, 1] := fun _ _ _ _ _ _ us ws h1 h2 => match us, ws, h1, h2 with | [], [_, _], _, _ => rfl
theorem kb_negative_1 : KbS "negative" s_negative ["value"] [] 1 [0] := fun _ _ _ _ _ _ us ws h1 h2 => match us, ws, h1, h2 with | [_], [], _, _ => rfl
theorem kb_plus_0_other_one : KbS "plus" s_plus ["one", "other"] ["other", "one"] 0 [1, 0] := fun _ _ _ _ _ _ us ws h1 h2 => match us, ws, h1, h2 with | [], [_, _], _, _ => rfl
theorem kb_plus_2 : KbS "plus" s_plus ["one", "other"] [] 2 [0, 1] := fun _ _ _ _ _ _ us ws h1 h2 => match us, ws, h1, h2 with | [_, _], [], _, _ => rfl
theorem kb_ratio_0_other_one : KbS "ratio" s_ratio ["one", "other"] ["other", "one"] 0 [1, 0] := fun _ _ _ _ _ _ us ws h1 h2 => match us, ws, h1, h2 with | [], [_, _], _, _ => rfl
theorem kb_ratio_2 : KbS "ratio" s_ratio ["one", "other"] [] 2 [0, 1] := fun _ _ _ _ _ _ us ws h1 h2 => match us, ws, h1, h2 with | [_, _], [], _, _ => rfl
theorem kb_simplest_0_low_high : KbS "simplest" s_simplest ["low", "high"] ["low", "high"] 0 [0, 1] := fun _ _ _ _ _ _ us ws h1 h2 => match us, ws, h1, h2 with | [], [_, _], _, _ => rfl
theorem kb_simplest_1_high : KbS "simplest" s_simplest ["low", "high"] ["high"] 1 [0, 1] := fun _ _ _ _ _ _ us ws h1 h2 => match us, ws, h1, h2 with | [_], [_], _, _ => rfl
theorem kb_simplest_2 : KbS "simplest" s_simplest ["low", "high"] [] 2 [0, 1] := fun _ _ _ _ _ _ us ws h1 h2 => match us, ws, h1, h2 with | [_, _], [], _, _ => rfl
theorem kb_times_0_other_one : KbS "times" s_times ["one", "other"] ["other", "one"] 0 [1, 0] := fun _ _ _ _ _ _ us ws h1 h2 => match us, ws, h1, h2 with | [], [_, _], _, _ => rfl
theorem kb_times_2 : KbS "times" s_times ["one", "other"] [] 2 [0, 1] := fun _ _ _ _ _ _ us ws h1 h2 => match us, ws, h1, h2 with | [_, _], [], _, _ => rfl
theorem kb_weighed_0_point_coefficients : KbS "weighed" s_weighed ["coefficients", "point"] ["point", "coefficients"] 0 [1, 0] := fun _ _ _ _ _ _ us ws h1 h2 => match us, ws, h1, h2 with | [], [_, _], _, _ => rfl
theorem kb_weighed_2 : KbS "weighed" s_weighed ["coefficients", "point"] [] 2 [0, 1] := fun _ _ _ _ _ _ us ws h1 h2 => match us, ws, h1, h2 with | [_, _], [], _, _ => rfl
theorem sc_is_whole : FnScope ["value"] ["value"] (defScope s_is_whole) := ⟨rfl, rfl, rfl, by decide +kernel, rfl, by decide +kernel, by decide +kernel⟩
theorem sc_fraction_of : FnScope ["top", "bottom", "divisor"] ["top", "bottom"] (defScope s_fraction_of) := ⟨rfl, rfl, rfl, by decide +kernel, rfl, by decide +kernel, by decide +kernel⟩
theorem sc_is_fraction : FnScope ["value", "top", "bottom"] ["value"] (defScope s_is_fraction) := ⟨rfl, rfl, rfl, by decide +kernel, rfl, by decide +kernel, by decide +kernel⟩
theorem sc_plus : FnScope ["one", "other"] ["one", "other"] (defScope s_plus) := ⟨rfl, rfl, rfl, by decide +kernel, rfl, by decide +kernel, by decide +kernel⟩
theorem sc_minus : FnScope ["one", "other"] ["one", "other"] (defScope s_minus) := ⟨rfl, rfl, rfl, by decide +kernel, rfl, by decide +kernel, by decide +kernel⟩
theorem sc_times : FnScope ["one", "other"] ["one", "other"] (defScope s_times) := ⟨rfl, rfl, rfl, by decide +kernel, rfl, by decide +kernel, by decide +kernel⟩
theorem sc_ratio : FnScope ["one", "other"] ["one", "other"] (defScope s_ratio) := ⟨rfl, rfl, rfl, by decide +kernel, rfl, by decide +kernel, by decide +kernel⟩
theorem sc_less : FnScope ["one", "other"] ["one", "other"] (defScope s_less) := ⟨rfl, rfl, rfl, by decide +kernel, rfl, by decide +kernel, by decide +kernel⟩
theorem sc_least_of : FnScope ["some", "least", "value"] ["some"] (defScope s_least_of) := ⟨rfl, rfl, rfl, by decide +kernel, rfl, by decide +kernel, by decide +kernel⟩
theorem sc_greatest_of : FnScope ["some", "greatest", "value"] ["some"] (defScope s_greatest_of) := ⟨rfl, rfl, rfl, by decide +kernel, rfl, by decide +kernel, by decide +kernel⟩
theorem sc_weighed : FnScope ["coefficients", "point", "top", "bottom", "coefficient", "value"] ["coefficients", "point"] (defScope s_weighed) := ⟨rfl, rfl, rfl, by decide +kernel, rfl, by decide +kernel, by decide +kernel⟩
theorem sc_negative : FnScope ["value"] ["value"] (defScope s_negative) := ⟨rfl, rfl, rfl, by decide +kernel, rfl, by decide +kernel, by decide +kernel⟩
theorem sc__simplest_above : FnScope ["low", "high", "wholes", "whole", "part", "top", "bottom"] ["low", "high"] (defScope s__simplest_above) := ⟨rfl, rfl, rfl, by decide +kernel, rfl, by decide +kernel, by decide +kernel⟩
theorem sc_simplest : FnScope ["low", "high"] ["low", "high"] (defScope s_simplest) := ⟨rfl, rfl, rfl, by decide +kernel, rfl, by decide +kernel, by decide +kernel⟩
theorem sc__law_box : FnScope ["_law_script", "_law_k", "_law_cell", "_law_great"] ["_law_script", "_law_k"] (defScope s__law_box) := ⟨rfl, rfl, rfl, by decide +kernel, rfl, by decide +kernel, by decide +kernel⟩
theorem sc__law_pick : FnScope ["_law_box_here", "_law_some"] ["_law_box_here", "_law_some"] (defScope s__law_pick) := ⟨rfl, rfl, rfl, by decide +kernel, rfl, by decide +kernel, by decide +kernel⟩
theorem sc__law_common : FnScope ["_law_numbers", "_law_found", "_law_item", "_law_one", "_law_other"] ["_law_numbers"] (defScope s__law_common) := ⟨rfl, rfl, rfl, by decide +kernel, rfl, by decide +kernel, by decide +kernel⟩
theorem sc__law_least : FnScope ["_law_coefficients", "_law_bound", "_law_factor", "_law_item"] ["_law_coefficients", "_law_bound"] (defScope s__law_least) := ⟨rfl, rfl, rfl, by decide +kernel, rfl, by decide +kernel, by decide +kernel⟩
theorem sc__law_fraction : FnScope ["_law_box_here", "_law_most", "_law_row"] ["_law_box_here"] (defScope s__law_fraction) := ⟨rfl, rfl, rfl, by decide +kernel, rfl, by decide +kernel, by decide +kernel⟩
theorem sc__law_is : FnScope ["_law_value", "_law_item"] ["_law_value"] (defScope s__law_is) := ⟨rfl, rfl, rfl, by decide +kernel, rfl, by decide +kernel, by decide +kernel⟩
theorem sc__law_truth : FnScope ["_law_value", "_law_due"] ["_law_value", "_law_due"] (defScope s__law_truth) := ⟨rfl, rfl, rfl, by decide +kernel, rfl, by decide +kernel, by decide +kernel⟩
theorem sc__law_equals : FnScope ["_law_value", "_law_top", "_law_bottom"] ["_law_value", "_law_top", "_law_bottom"] (defScope s__law_equals) := ⟨rfl, rfl, rfl, by decide +kernel, rfl, by decide +kernel, by decide +kernel⟩
theorem sc__law_way : FnScope ["_law_box_here", "_law_left", "_law_right", "_law_some", "_law_k", "_law_run"] ["_law_box_here"] (defScope s__law_way) := ⟨rfl, rfl, rfl, by decide +kernel, rfl, by decide +kernel, by decide +kernel⟩
theorem sc__law_end : FnScope ["_law_box_here", "_law_middle", "_law_side", "_law_share", "_law_other", "_law_row"] ["_law_box_here", "_law_middle", "_law_side"] (defScope s__law_end) := ⟨rfl, rfl, rfl, by decide +kernel, rfl, by decide +kernel, by decide +kernel⟩
theorem sc__law_turn : FnScope ["_law_end_here"] ["_law_end_here"] (defScope s__law_turn) := ⟨rfl, rfl, rfl, by decide +kernel, rfl, by decide +kernel, by decide +kernel⟩
theorem sc__law_none_less : FnScope ["_law_found", "_law_low", "_law_high", "_law_bottom", "_law_first", "_law_top", "_law_last"] ["_law_found", "_law_low", "_law_high"] (defScope s__law_none_less) := ⟨rfl, rfl, rfl, by decide +kernel, rfl, by decide +kernel, by decide +kernel⟩
theorem sc__law_ranges_right : FnScope ["_law_box_here", "_law_found", "_law_left", "_law_right", "_law_low", "_law_high", "_law_over", "_law_wrong", "_law_item"] ["_law_box_here"] (defScope s__law_ranges_right) := ⟨rfl, rfl, rfl, by decide +kernel, rfl, by decide +kernel, by decide +kernel⟩
theorem sc__law_odd : FnScope ["_law_box_here", "_law_one", "_law_top", "_law_bottom", "_law_some"] ["_law_box_here", "_law_one"] (defScope s__law_odd) := ⟨rfl, rfl, rfl, by decide +kernel, rfl, by decide +kernel, by decide +kernel⟩
theorem sc__law_near_right : FnScope ["_law_box_here", "_law_many", "_law_below", "_law_near", "_law_far"] ["_law_box_here"] (defScope s__law_near_right) := ⟨rfl, rfl, rfl, by decide +kernel, rfl, by decide +kernel, by decide +kernel⟩
theorem sc_law : FnScope ["_law_script", "_law_k", "_law_box_here", "_law_one", "_law_other", "_law_third", "_law_a", "_law_b", "_law_c", "_law_d", "_law_factor", "_law_wrong", "_law_some", "_law_low", "_law_high", "_law_amounts", "_law_top", "_law_bottom", "_law_at", "_law_odd_here", "_law_item"] ["_law_script"] (defScope s_law) := ⟨rfl, rfl, rfl, by decide +kernel, rfl, by decide +kernel, by decide +kernel⟩

structure Tx (W : Wd) (mg : Str → Option Value) : Prop where
  m_abs : mg "abs" = none
  m_all : mg "all" = none
  m_bool : mg "bool" = none
  m_gcd : mg "gcd" = some (.builtin "math.gcd")
  m_int : mg "int" = none
  m_isinstance : mg "isinstance" = none
  m_len : mg "len" = none
  m_list : mg "list" = none
  m_min : mg "min" = none
  m_range : mg "range" = none
  m_reversed : mg "reversed" = none
  m_tuple : mg "tuple" = none
  m_zip : mg "zip" = none
section
variable {P : Program} {w : World} {mg : Str → Option Value} {base : Heap} {W : Wd} {RR : Addr → Addr → ResN}
abbrev Fr2 := Int × Int
def dF (x : Fr2) : PyData := .tuple [.int x.1, .int x.2]
def vF (x : Fr2) : Rat := Rat.divInt x.1 x.2
def cF (q : Rat) : Fr2 := (q.num, (q.den : Int))
def dQ (q : Rat) : PyData := dF (cF q)
def SzF (n : Nat) (x : Fr2) : Prop := 0 < x.2 ∧ x.1.natAbs < 2 ^ n ∧ x.2.natAbs < 2 ^ n
def Sz (n : Nat) (q : Rat) : Prop := q.num.natAbs < 2 ^ n ∧ q.den < 2 ^ n
theorem vF_cF (q : Rat) : vF (cF q) = q := Rat.num_divInt_den q
theorem den_pos (q : Rat) : 0 < (q.den : Int) := by have := q.den_pos; omega
theorem Sz.f {n : Nat} {q : Rat} (h : Sz n q) : SzF n (cF q) := ⟨den_pos q, h.1, h.2⟩
theorem cF_inj {a b : Rat} (h : cF a = cF b) : a = b := by rw [← vF_cF a, h, vF_cF]
theorem dF_inj {a b : Fr2} (h : dF a = dF b) : a = b := by
  unfold dF at h
  simp only [PyData.tuple.injEq, List.cons.injEq, PyData.int.injEq] at h
  exact Prod.ext h.1 h.2.1
theorem dQ_inj {a b : Rat} (h : dQ a = dQ b) : a = b := cF_inj (dF_inj h)
theorem noB_dF (x : Fr2) : noB (dF x) = true := rfl
theorem fit_dF (x : Fr2) : dOk 1 (dF x) = true := by simp [dF, dOk, dOkA]
theorem eqv_dQ (a b : Rat) : PyData.eqv (dQ a) (dQ b) = decide (a = b) := by
  rw [Bool.eq_iff_iff, eqv_iff (dQ a) (dQ b) (noB_dF _) (noB_dF _), decide_eq_true_eq]
  exact ⟨dQ_inj, fun h => by rw [h]⟩
theorem p2 {a b : Nat} (h : a ≤ b) : 2 ^ a ≤ 2 ^ b := Nat.pow_le_pow_right (by decide) h
theorem Sz.mono {m n : Nat} {q : Rat} (h : Sz m q) (k : m ≤ n) : Sz n q := ⟨Nat.lt_of_lt_of_le h.1 (p2 k), Nat.lt_of_lt_of_le h.2 (p2 k)⟩
theorem mul2 {a b m n : Nat} (ha : a < 2 ^ m) (hb : b < 2 ^ n) : a * b < 2 ^ (m + n) := by
  rw [Nat.pow_add]
  exact Nat.mul_lt_mul'' ha hb
theorem mul2i {a b : Int} {m n : Nat} (ha : a.natAbs < 2 ^ m) (hb : b.natAbs < 2 ^ n) : (a * b).natAbs < 2 ^ (m + n) := by
  rw [Int.natAbs_mul]
  exact mul2 ha hb
theorem add2i {a b : Int} {m : Nat} (ha : a.natAbs < 2 ^ m) (hb : b.natAbs < 2 ^ m) : (a + b).natAbs < 2 ^ (m + 1) := by
  have := Int.natAbs_add_le a b
  rw [Nat.pow_succ]
  omega
theorem fdiv_abs_le {v g : Int} (h : 0 < g) : (v.fdiv g).natAbs ≤ v.natAbs := by
  rw [Int.fdiv_eq_ediv_of_nonneg _ (Int.le_of_lt h)]
  have a := Int.ediv_mul_le v (Int.ne_of_gt h)
  have b := Int.lt_ediv_add_one_mul_self v h
  generalize v / g = q at a b ⊢
  rcases Int.lt_or_le q 0 with k | k
  · have : (q + 1) * g ≤ (q + 1) * 1 := Int.mul_le_mul_of_nonpos_left (by omega) (by omega)
    have c : q * g ≤ v := a
    have d : q * g ≤ q * 1 := Int.mul_le_mul_of_nonpos_left (by omega) (by omega)
    omega
  · have : q * 1 ≤ q * g := Int.mul_le_mul_of_nonneg_left (by omega) k
    omega
def gg (t b : Int) : Int := (Nat.gcd t.natAbs b.natAbs : Nat)
theorem gg_pos {t b : Int} (h : 0 < b) : 0 < gg t b := by
  unfold gg
  have : 0 < Nat.gcd t.natAbs b.natAbs := Nat.gcd_pos_of_pos_right _ (by omega)
  omega
theorem gg_le {t b : Int} (h : 0 < b) : gg t b ≤ b := by
  unfold gg
  have : Nat.gcd t.natAbs b.natAbs ≤ b.natAbs := Nat.gcd_le_right _ (by omega)
  omega
theorem cF_div {t b : Int} (h : 0 < b) : cF (Rat.divInt t b) = (t.fdiv (gg t b), b.fdiv (gg t b)) := by
  have e : ((Int.gcd b t : Nat) : Int) = gg t b := by
    unfold gg Int.gcd
    rw [Nat.gcd_comm]
  unfold cF
  rw [Rat.num_divInt, Rat.den_divInt, if_neg (by omega), Int.sign_eq_one_of_pos h, Int.one_mul, Int.fdiv_eq_ediv_of_nonneg _ (Int.le_of_lt (gg_pos h)), Int.fdiv_eq_ediv_of_nonneg _ (Int.le_of_lt (gg_pos h)), e]
  refine Prod.ext rfl ?_
  show ((b.natAbs / Int.gcd b t : Nat) : Int) = b / gg t b
  rw [Int.natCast_ediv, e, Int.natAbs_of_nonneg (Int.le_of_lt h)]
theorem Sz.div {t b : Int} {n : Nat} (h : 0 < b) (ht : t.natAbs < 2 ^ n) (hb : b.natAbs < 2 ^ n) : Sz n (Rat.divInt t b) := by
  have e := cF_div (t := t) h
  have e1 : (Rat.divInt t b).num = t.fdiv (gg t b) := congrArg Prod.fst e
  have e2 : ((Rat.divInt t b).den : Int) = b.fdiv (gg t b) := congrArg Prod.snd e
  have g := gg_pos (t := t) h
  refine ⟨by rw [e1]; exact Nat.lt_of_le_of_lt (fdiv_abs_le g) ht, ?_⟩
  have a := fdiv_abs_le (v := b) g
  rw [← e2] at a
  omega
theorem Sz.v {x : Fr2} {n : Nat} (h : SzF n x) : Sz n (vF x) := Sz.div h.1 h.2.1 h.2.2
theorem Sz.add {a b : Rat} {m n : Nat} (ha : Sz m a) (hb : Sz n b) : Sz (m + n + 1) (a + b) := by
  rw [Rat.add_def', ← Rat.divInt_ofNat]
  have d : ((a.den * b.den : Nat) : Int).natAbs < 2 ^ (m + n) := by rw [Int.natAbs_natCast]; exact mul2 ha.2 hb.2
  have p : 0 < a.den * b.den := Nat.mul_pos a.den_pos b.den_pos
  refine Sz.div (by omega) ?_ (Nat.lt_of_lt_of_le d (p2 (by omega)))
  refine add2i ?_ ?_
  · exact mul2i ha.1 (show (b.den : Int).natAbs < 2 ^ n from hb.2)
  · have := mul2i hb.1 (show (a.den : Int).natAbs < 2 ^ m from ha.2)
    rw [Nat.add_comm m n]; exact this
theorem Sz.mul {a b : Rat} {m n : Nat} (ha : Sz m a) (hb : Sz n b) : Sz (m + n) (a * b) := by
  rw [Rat.mul_def', ← Rat.divInt_ofNat]
  have d : ((a.den * b.den : Nat) : Int).natAbs < 2 ^ (m + n) := by rw [Int.natAbs_natCast]; exact mul2 ha.2 hb.2
  have p : 0 < a.den * b.den := Nat.mul_pos a.den_pos b.den_pos
  exact Sz.div (by omega) (mul2i ha.1 hb.1) d
theorem Sz.neg {a : Rat} {m : Nat} (h : Sz m a) : Sz m (-a) := ⟨by show (-a.num).natAbs < _; rw [Int.natAbs_neg]; exact h.1, h.2⟩
theorem Sz.int {i : Int} {m : Nat} (h : i.natAbs < 2 ^ m) (hm : 0 < m) : Sz m (i : Rat) := ⟨h, Nat.one_lt_two_pow (by omega)⟩
theorem Sz.zero {m : Nat} (hm : 0 < m) : Sz m 0 := ⟨Nat.two_pow_pos m, Nat.one_lt_two_pow (by omega)⟩
def sumQ : List Rat → Rat
  | [] => 0
  | x :: xs => x + sumQ xs
theorem sumQ_append : ∀ xs ys : List Rat, sumQ (xs ++ ys) = sumQ xs + sumQ ys
  | [], ys => (Rat.zero_add _).symm
  | x :: xs, ys => by
    show x + sumQ (xs ++ ys) = x + sumQ xs + sumQ ys
    rw [sumQ_append xs ys, Rat.add_assoc]
theorem sumQ_one (x : Rat) : sumQ [x] = x := Rat.add_zero x
theorem Sz.sum {s : Nat} : ∀ {xs : List Rat}, (∀ x ∈ xs, Sz s x) → Sz (xs.length * (s + 1) + 1) (sumQ xs)
  | [], _ => Sz.zero (by omega)
  | x :: xs, h => by
    have := (h x List.mem_cons_self).add (Sz.sum fun y hy => h y (List.mem_cons_of_mem _ hy))
    refine this.mono ?_
    rw [List.length_cons, Nat.add_mul]
    omega
theorem step_v {T B c v0 v1 : Int} (hB : 0 < B) (h1 : 0 < v1) : Rat.divInt (T * v1 + c * v0 * B) (B * v1) = Rat.divInt T B + (c : Rat) * Rat.divInt v0 v1 := by
  have e : (c : Rat) * Rat.divInt v0 v1 = Rat.divInt (c * v0) v1 := by
    have := Rat.divInt_mul_divInt c v0 (d₁ := 1) (d₂ := v1)
    rw [Int.one_mul] at this
    rw [← this, show Rat.divInt c 1 = (c : Rat) from Rat.num_divInt_den (c : Rat)]
  rw [e, Rat.divInt_add_divInt _ _ (by omega) (by omega)]
theorem step_s {T B a0 a1 b0 b1 : Int} (hB : 0 < B) (h1 : 0 < a1) (h2 : 0 < b1) : Rat.divInt (T * a1 * b1 + a0 * b0 * B) (B * a1 * b1) = Rat.divInt T B + Rat.divInt a0 a1 * Rat.divInt b0 b1 := by
  have h3 : a1 * b1 ≠ 0 := Int.ne_of_gt (Int.mul_pos h1 h2)
  rw [Rat.divInt_mul_divInt, Rat.divInt_add_divInt _ _ (by omega) h3, Int.mul_assoc T, Int.mul_assoc B]
theorem lt_num (a b : Rat) : decide (a.num * b.den < b.num * a.den) = decide (a < b) := decide_eq_decide.mpr (Rat.lt_iff a b).symm
theorem cmulw {a b : Int} (ha : a.natAbs < 2 ^ 9000) (hb : b.natAbs < 2 ^ 9000) : CMulW a b := wide_mul ha hb (by decide) (by decide) (by decide)
theorem cdiv {t b : Int} (h : 0 < b) (hb : b.natAbs < 2 ^ 9000) : (gg t b ≠ 0 ∧ (gg t b).natAbs < 1073741824) ∨ (0 < gg t b ∧ (gg t b).natAbs.log2 < 9000) := by
  have g := gg_pos (t := t) h
  have l := gg_le (t := t) h
  refine .inr ⟨g, (Nat.log2_lt (by omega)).mpr (Nat.lt_of_le_of_lt ?_ hb)⟩
  omega
theorem map_at {α : Type} {f : α → PyData} {xs : List α} {i : Nat} {d : PyData} (h : (xs.map f)[i]? = some d) : ∃ x, xs[i]? = some x ∧ d = f x := by
  rw [List.getElem?_map] at h
  cases q : xs[i]? with
  | none => rw [q] at h; cases h
  | some x => rw [q] at h; cases h; exact ⟨x, rfl, rfl⟩
theorem take_more {α : Type} {xs : List α} {i : Nat} {x : α} (h : xs[i]? = some x) : xs.take (i + 1) = xs.take i ++ [x] := by
  obtain ⟨hi, e⟩ := List.getElem?_eq_some_iff.mp h
  rw [List.take_succ_eq_append_getElem hi, e]
theorem zipD_map {α β : Type} (f : α → PyData) (g : β → PyData) : ∀ (xs : List α) (ys : List β), zipD (xs.map f) (ys.map g) = (xs.zip ys).map fun p => pairD (f p.1) (g p.2)
  | [], _ => by simp [zipD]
  | _ :: _, [] => by simp [zipD]
  | x :: xs, y :: ys => by
    show pairD (f x) (g y) :: zipD (xs.map f) (ys.map g) = _
    rw [zipD_map f g xs ys]
    rfl
theorem zip_mem {α β : Type} {xs : List α} {ys : List β} {p : α × β} (h : p ∈ xs.zip ys) : p.1 ∈ xs ∧ p.2 ∈ ys := List.of_mem_zip h
theorem at_of {α : Type} {xs : List α} {i : Nat} (h : i < xs.length) : ∃ x, xs[i]? = some x := ⟨xs[i], List.getElem?_eq_getElem h⟩
theorem atM {α : Type} {f : α → PyData} {xs : List α} {i : Nat} {x : α} (h : xs[i]? = some x) : atI (xs.map f) (i : Int) = some (f x) := atI_nat (by rw [List.getElem?_map, h]; rfl)
theorem eqv_int (a b : Int) : PyData.eqv (.int a) (.int b) = decide (a = b) := by
  simp only [PyData.eqv]
  by_cases h : a = b <;> simp [h]
theorem fit_int (a : Int) : Fit (.int a) := by unfold Fit; simp [dOk]
theorem fit_bool (b : Bool) : Fit (.bool b) := by unfold Fit; simp [dOk]
theorem eqv_bool (a b : Bool) : PyData.eqv (.bool a) (.bool b) = (a == b) := by simp only [PyData.eqv]
def intD : PyData → Int
  | .int v => v
  | _ => 0
theorem filter_ints (p : Int → Bool) (ks : List Int) : ((ks.map PyData.int).filter fun d => p (intD d)).map id = (ks.filter p).map .int := by
  rw [List.map_id, List.filter_map]
  rfl
def dInts (ks : List Int) : PyData := .list (ks.map .int)
theorem abs_nat (i : Int) : (if i < 0 then -i else i) = ((i.natAbs : Nat) : Int) := by split <;> omega
def dE : Option Rat → PyData
  | none => .none
  | some q => dQ q
def valE (o : Option Rat) : Rat := o.getD 0
def SzE (n : Nat) (o : Option Rat) : Prop := ∀ q, o = some q → Sz n q
theorem sq_set {i : Nat} {d : PyData} {w2 : WS} {W : DL.WX} {ρ : Ev} (h : w2 W (put ρ i (.d d))) : wSq (wSet i (wC d)) w2 W ρ := h
theorem sq_nx {w2 : WS} {W : DL.WX} {ρ : Ev} (h : w2 W ρ) : wSq wNx w2 W ρ := h
theorem map_true (xs : List PyData) : xs.map (fun _ => PyData.bool true) = (xs.map fun _ => true).map .bool := by rw [List.map_map]; rfl

def tot (z : Nat → Nat) : Nat → Nat
  | 0 => 1
  | n + 1 => tot z n + z n
theorem tot_const (s : Nat) : ∀ n, tot (fun _ => s) n = n * s + 1
  | 0 => by rw [Nat.zero_mul]; rfl
  | n + 1 => by
    show tot _ n + s = _
    rw [tot_const s n, Nat.succ_mul]
    omega
theorem tot_head (a s : Nat) : ∀ n, tot (fun i => if i = 0 then a else s) (n + 1) = a + n * s + 1
  | 0 => by
    show 1 + a = _
    omega
  | n + 1 => by
    show tot _ (n + 1) + s = _
    rw [tot_head a s n, Nat.succ_mul]
    omega
theorem tot_mono (z : Nat → Nat) {m : Nat} : ∀ {n}, m ≤ n → tot z m ≤ tot z n
  | 0, h => by rw [Nat.le_zero.mp h]; exact Nat.le_refl _
  | n + 1, h => by
    rcases Nat.lt_or_ge m (n + 1) with k | k
    · have := tot_mono z (m := m) (n := n) (by omega)
      show _ ≤ tot z n + z n
      omega
    · rw [Nat.le_antisymm h k]; exact Nat.le_refl _
def dot (cs : List Int) (qs : List Rat) : Rat := sumQ ((cs.zip qs).map fun x => (x.1 : Rat) * x.2)
abbrev Rn := Option Rat × Option Rat
def dRn (r : Rn) : PyData := .tuple [dE r.1, dE r.2]
def dB (b : List Rn) : PyData := .tuple (b.map dRn)
structure BoxS (b : List Rn) : Prop where
  few : b.length ≤ 6
  sz : ∀ x ∈ b, SzE 70 x.1 ∧ SzE 70 x.2
def farV (v : Rat) (x : Rn) : Option Rat := if 0 < v then x.2 else x.1
def badV (p : Rat × Rn) : Bool := !decide (p.1 = 0) && (farV p.1 p.2).isNone
def termV (p : Rat × Rn) : Rat := p.1 * valE (farV p.1 p.2)
def topV (vs : List Rat) (b : List Rn) : Option Rat := if (vs.zip b).any badV then none else some (sumQ ((vs.zip b).map termV))
def farI (x : Int × Rn) : Option Rat := if 0 < x.1 then x.2.2 else x.2.1
def badI (x : Int × Rn) : Bool := !decide (x.1 = 0) && (farI x).isNone
def castL (cs : List Int) : List Rat := cs.map fun (c : Int) => (c : Rat)
theorem cast_pos (c : Int) : (0 < (c : Rat)) = (0 < c) := propext Rat.intCast_pos
theorem cast_zero (c : Int) : ((c : Rat) = 0) = (c = 0) := propext Rat.intCast_eq_zero_iff
theorem farV_int (x : Int × Rn) : farV (x.1 : Rat) x.2 = farI x := by
  unfold farV farI
  simp only [cast_pos]
theorem zip_cast : ∀ (cs : List Int) (b : List Rn), (castL cs).zip b = (cs.zip b).map fun x => ((x.1 : Rat), x.2)
  | [], _ => rfl
  | _ :: _, [] => rfl
  | c :: cs, x :: b => by
    show ((c : Rat), x) :: (castL cs).zip b = _ :: _
    rw [zip_cast cs b]
    rfl
theorem zip_far : ∀ (cs : List Int) (b : List Rn), cs.zip ((cs.zip b).map farI) = (cs.zip b).map fun x => (x.1, farI x)
  | [], _ => rfl
  | _ :: _, [] => rfl
  | c :: cs, x :: b => by
    show (c, farI (c, x)) :: cs.zip ((cs.zip b).map farI) = _ :: _
    rw [zip_far cs b]
    rfl
theorem any_map' {α β : Type} (f : α → β) (p : β → Bool) (xs : List α) : (xs.map f).any p = xs.any fun x => p (f x) := by rw [List.any_map]; rfl
theorem badV_int (x : Int × Rn) : badV ((x.1 : Rat), x.2) = badI x := by
  unfold badV badI
  show (!decide ((x.1 : Rat) = 0) && (farV (x.1 : Rat) x.2).isNone) = _
  rw [farV_int]
  simp only [cast_zero]
def wS (cs : List Int) (es : List (Option Rat)) : Rat := sumQ ((cs.zip es).map fun x => (x.1 : Rat) * valE x.2)
theorem topV_int (cs : List Int) (b : List Rn) : topV (castL cs) b = if (cs.zip b).any badI then none else some (wS cs ((cs.zip b).map farI)) := by
  unfold topV wS
  rw [zip_cast, any_map', zip_far, List.map_map, List.map_map]
  have e1 : ((cs.zip b).any fun x => badV ((x.1 : Rat), x.2)) = (cs.zip b).any badI := by
    congr 1
    exact funext badV_int
  rw [e1]
  congr 3
  refine List.map_congr_left fun x _ => ?_
  show (x.1 : Rat) * valE (farV (x.1 : Rat) x.2) = _
  rw [farV_int]
  rfl
theorem wS_some (cs : List Int) (qs : List Rat) : wS cs (qs.map some) = dot cs qs := by
  unfold wS dot
  have : cs.zip (qs.map some) = (cs.zip qs).map fun x => (x.1, some x.2) := by
    rw [List.zip_map_right]
    rfl
  rw [this, List.map_map]
  rfl
theorem sumQ_zero {xs : List Rat} (h : ∀ x ∈ xs, x = 0) : sumQ xs = 0 := by
  induction xs with
  | nil => rfl
  | cons x r ih =>
    show x + sumQ r = 0
    rw [h x List.mem_cons_self, ih fun y hy => h y (List.mem_cons_of_mem _ hy), Rat.zero_add]
theorem sumQ_filter {α : Type} (p : α → Bool) (f : α → Rat) : ∀ xs : List α, (∀ x ∈ xs, p x = false → f x = 0) → sumQ ((xs.filter p).map f) = sumQ (xs.map f)
  | [], _ => rfl
  | x :: r, h => by
    have ih := sumQ_filter p f r fun y hy => h y (List.mem_cons_of_mem _ hy)
    cases c : p x with
    | true =>
      rw [List.filter_cons_of_pos c]
      show f x + _ = f x + _
      rw [ih]
    | false =>
      rw [List.filter_cons_of_neg (by rw [c]; exact Bool.false_ne_true), ih]
      show _ = f x + _
      rw [h x List.mem_cons_self c, Rat.zero_add]
def topSz (vs : List Rat) (b : List Rn) {a : Nat} {v : Rat} (hv : ∀ x ∈ vs, Sz a x) (hb : BoxS b) (h : topV vs b = some v) : Sz (6 * (a + 70 + 1) + 1) v := by
  unfold topV at h
  split at h
  · cases h
  · cases h
    have l : ((vs.zip b).map termV).length ≤ 6 := by
      rw [List.length_map, List.length_zip]
      have := hb.few
      omega
    refine (Sz.sum (s := a + 70) fun x hx => ?_).mono (Nat.succ_le_succ (Nat.mul_le_mul_right _ l))
    obtain ⟨p, hp, rfl⟩ := List.mem_map.mp hx
    have hm := zip_mem hp
    refine (hv _ hm.1).mul ?_
    have s := hb.sz _ hm.2
    have one : ∀ o : Option Rat, SzE 70 o → Sz 70 (valE o) := fun o ho => by
      cases o with
      | none => exact Sz.zero (by decide)
      | some q => exact ho q rfl
    unfold farV
    split
    · exact one _ s.2
    · exact one _ s.1
abbrev Rw := List Int × Int
def dRow (r : Rw) : PyData := .tuple [.tuple (r.1.map .int), .int r.2]
def namesD (xs : List Str) : PyData := .tuple (xs.map .str)
def dSys (xs : List Str) (rows : List Rw) : PyData := .dict [(.str "names", namesD xs), (.str "rows", .tuple (rows.map dRow))]
def dQs (qs : List Rat) : PyData := .tuple (qs.map dQ)
structure RowsS (n : Nat) (rows : List Rw) : Prop where
  few : rows.length ≤ 60
  len : ∀ r ∈ rows, r.1.length = n
  sz : ∀ r ∈ rows, (∀ c ∈ r.1, c.natAbs < 2 ^ 21) ∧ r.2.natAbs < 2 ^ 21
structure NumS (m : Nat) (qs : List Rat) : Prop where
  len : qs.length = m
  sz : ∀ q ∈ qs, Sz 31 q
  nn : ∀ q ∈ qs, 0 ≤ q
def col (rows : List Rw) (j : Nat) : List Int := rows.map fun r => r.1.getD j 0
def mixQ (rows : List Rw) (qs : List Rat) (j : Nat) : Rat := dot (col rows j) qs
def bndQ (rows : List Rw) (qs : List Rat) : Rat := dot (rows.map (·.2)) qs
def posQ (rows : List Rw) (qs : List Rat) (j : Nat) : Rat := dot ((col rows j).map fun c => max c 0) qs
def negQ (rows : List Rw) (qs : List Rat) (j : Nat) : Rat := dot ((col rows j).map fun c => max (-c) 0) qs
def lostQ (rows : List Rw) (qs : List Rat) (j : Nat) : Rat := if negQ rows qs j < posQ rows qs j then negQ rows qs j else posQ rows qs j
theorem dot_sz {cs : List Int} {qs : List Rat} {m : Nat} (hm : qs.length ≤ m) (hc : ∀ c ∈ cs, c.natAbs < 2 ^ 21) (hq : ∀ q ∈ qs, Sz 31 q) : Sz (m * 53 + 1) (dot cs qs) := by
  have l : ((cs.zip qs).map fun x => (x.1 : Rat) * x.2).length ≤ m := by rw [List.length_map, List.length_zip]; omega
  refine (Sz.sum (s := 52) fun x hx => ?_).mono (Nat.succ_le_succ (Nat.mul_le_mul_right _ l))
  obtain ⟨p, hp, rfl⟩ := List.mem_map.mp hx
  have hm := zip_mem hp
  exact (Sz.int (hc _ hm.1) (by decide)).mul (hq _ hm.2)
theorem getD_sz {r : List Int} {j : Nat} (h : ∀ c ∈ r, c.natAbs < 2 ^ 21) : (r.getD j 0).natAbs < 2 ^ 21 := by
  rw [List.getD_eq_getElem?_getD]
  cases e : r[j]? with
  | none => decide
  | some c => exact h c (List.mem_of_getElem? e)
theorem col_sz {n : Nat} {rows : List Rw} (h : RowsS n rows) (j : Nat) : ∀ c ∈ col rows j, c.natAbs < 2 ^ 21 := fun c hc => by
  obtain ⟨r, hr, rfl⟩ := List.mem_map.mp hc
  exact getD_sz (h.sz r hr).1
abbrev Pr := Fr2 × Fr2
def dPr (p : Pr) : PyData := .tuple [dF p.1, dF p.2]
def prods (ps : List Pr) : Rat := sumQ (ps.map fun p => vF p.1 * vF p.2)
def gL (ks : List Int) : Nat := ks.foldl (fun a k => Nat.gcd a k.natAbs) 0
def rowB (r : Rw) : Bool := r.1.any (fun n => n != 0) && decide (gL (r.1 ++ [r.2]) = 1)

theorem sq_var {i j : Nat} {x : PyData} {w2 : WS} {W : DL.WX} {ρ : Ev} (hx : nth ρ j = .d x) (h : w2 W (put ρ i (.d x))) : wSq (wSet i (wVar j)) w2 W ρ := by
  show (match nth ρ j with | .d y => (fun ρ' => w2 W ρ') (put ρ i (.d y)) | _ => False)
  rw [hx]
  exact h
theorem var_at {i : Nat} {x : PyData} {ρ : Ev} {Φ : PyData → Prop} (hx : nth ρ i = .d x) (h : Φ x) : wVar i ρ Φ := by
  unfold wVar
  rw [hx]
  exact h
theorem le4 {v : Int} (h : v.natAbs < 2 ^ 4000) : v.natAbs < 2 ^ 9000 := Nat.lt_of_lt_of_le h (p2 (by decide))
theorem gg_dvd (t b : Int) : (gg t b ∣ t) ∧ gg t b ∣ b := by
  unfold gg
  exact ⟨Int.ofNat_dvd_left.mpr (Nat.gcd_dvd_left _ _), Int.ofNat_dvd_left.mpr (Nat.gcd_dvd_right _ _)⟩
theorem gg_neg (t b : Int) : gg (-t) (-b) = gg t b := by unfold gg; rw [Int.natAbs_neg, Int.natAbs_neg]
theorem fdiv_flip {t g : Int} (h : g ∣ t) (hg : 0 < g) : t.fdiv (-g) = (-t).fdiv g := by
  obtain ⟨k, rfl⟩ := h
  have e1 : g * k = -g * -k := by rw [Int.neg_mul_neg]
  have e2 : -(g * k) = g * -k := by rw [Int.mul_neg]
  rw [e2, e1, Int.mul_fdiv_cancel_left _ (by omega), Int.mul_fdiv_cancel_left _ (by omega)]
theorem mulLt {a b : Int} {m n : Nat} (ha : a.natAbs < 2 ^ m) (hb : b.natAbs < 2 ^ n) (h : m + n ≤ 9000) : (a * b).natAbs < 2 ^ 9000 := Nat.lt_of_lt_of_le (mul2i ha hb) (p2 h)
/-- data that may be asked for their class, and so may their items -/
def plainO : PyData → Prop
  | .dict kvs => kvs = []
  | _ => True
theorem plainO_k {d : PyData} (h : plainO d) : ∀ k, d = .dict k → k = [] := fun k e => by subst e; exact h
def oddOk (d : PyData) : Prop := plainO d ∧ ∀ xs, d = .tuple xs → ∀ x ∈ xs, plainO x
/-- a fraction in lowest terms -/
def frB : PyData → Bool
  | .tuple [.int x, .int y] => decide (0 < y) && decide (gg x y = 1)
  | _ => false
theorem frB_dQ (q : Rat) : frB (dQ q) = true := by
  show (decide (0 < (q.den : Int)) && decide (gg q.num q.den = 1)) = true
  rw [decide_eq_true (den_pos q), decide_eq_true (show gg q.num q.den = 1 by unfold gg; rw [Int.natAbs_natCast, q.reduced]; rfl)]
  rfl
theorem sml {v : Int} (h : v.natAbs < 2 ^ 200) : v.natAbs < 2 ^ 9000 := Nat.lt_of_lt_of_le h (p2 (by decide))
theorem atI_int {α : Type} {xs : List α} {k : Int} (h0 : 0 ≤ k) (h1 : k < xs.length) : ∃ x ∈ xs, atI xs k = some x := by
  obtain ⟨n, rfl⟩ := Int.eq_ofNat_of_zero_le h0
  have hn : n < xs.length := by omega
  exact ⟨xs[n], List.getElem_mem hn, atI_nat (List.getElem?_eq_getElem hn)⟩
theorem abs_nn (d : Int) : 0 ≤ (if d < 0 then -d else d) := by split <;> omega
theorem for_allN {K : Nat} {wi : WI} {g : WG} {wb : WS} {W : DL.WX} {ρ : Ev} {ds : List PyData} (J : Nat → Ev → Prop) (hi : ∀ Ψ, Ψ ds → wi ρ Ψ) (hl : ds.length ≤ K) (h0 : J 0 ρ)
    (h : ∀ i d ρ2, ds[i]? = some d → J i ρ2 → g d ρ2 fun ρ3 => wb { W with nx := fun ρ4 => J (i + 1) ρ4, ct := fun ρ4 => J (i + 1) ρ4, bk := W.nx } ρ3) (q : ∀ ρ2, J ds.length ρ2 → W.nx ρ2) : wForN K wi g wb W ρ := hi _ ⟨hl, J, h0, h, q⟩
theorem lcN_any {K : Nat} {wi : WI} {g : WG} {we : WE} {vs : List Nat} {ρ : Ev} {ds : List PyData} (R : Nat → PyData → Prop) {Φ : List PyData → Prop} (hn : noOwn ρ vs = true) (hi : ∀ Ψ, Ψ ds → wi ρ Ψ) (hK : ds.length ≤ K) (hl : ds.length ≤ 100000)
    (h : ∀ i d, ds[i]? = some d → ∀ Ψ : PyData → Prop, (∀ y, R i y → Ψ y) → g d (wipeE ρ vs) fun ρ2 => we ρ2 Ψ) (q : ∀ ys : List PyData, ys.length = ds.length → (∀ i y, ys[i]? = some y → R i y) → Φ ys) : wLcN K wi g wYes we vs ρ Φ := by
  obtain ⟨_, w⟩ := lc_any (wi := fun _ Ψ => Ψ ds) (ρ := ρ) (vs := vs) R hn (fun Ψ h => h) hl h q
  exact ⟨hn, hi _ ⟨hK, w⟩⟩

def wholeD : PyData → Bool
  | .int _ => true
  | _ => false
def F_is_whole : FD := fun ds Φ => ∃ d, ds = [d] ∧ plainO d ∧ Φ (.bool (wholeD d))
theorem len_is_whole {ds Φ} (h : F_is_whole ds Φ) : ds.length = 1 := by obtain ⟨a, e, _⟩ := h; rw [e]; rfl
-- slots of is_whole: 0 value
def wk_is_whole_0 : WS :=
  (wRet (wAndV (wIsi "int" (wVar 0)) (wNotV (wIsi "bool" (wVar 0)))))
def ws_is_whole : WS :=
  wk_is_whole_0
def wr_is_whole : WS :=
  (wRet (wAndV (wIsi "int" (wVar 0)) (wNotV (wIsi "bool" (wVar 0)))))

theorem sem_is_whole (ds : List PyData) (Φ : PyData → Prop) (h : F_is_whole ds Φ) : ws_is_whole (retX Φ) (ev0 1 ds) := by
  obtain ⟨d, rfl, hp, h⟩ := h
  have hk := plainO_k hp
  cases d with
  | int i => exact ⟨true, rfl, hk, false, rfl, hk, h⟩
  | bool b => exact ⟨true, rfl, hk, true, rfl, hk, h⟩
  | none => exact ⟨false, rfl, hk, h⟩
  | str x => exact ⟨false, rfl, hk, h⟩
  | list x => exact ⟨false, rfl, hk, h⟩
  | tuple x => exact ⟨false, rfl, hk, h⟩
  | dict x => exact ⟨false, rfl, hk, h⟩

theorem dv_is_whole (T : Tx W mg) (cdv : Value) (A : Around) (env : List Env) (s : Shared) (H : Hp) (E : XK) (N0 : Addr → Prop) {f : Addr} (hr : Rg 0 (A.deeper (envOfC "is_whole" (defScope s_is_whole) s.heap.objs.size f cdv))) :
    PSs (cxOf CX0 P w W.K mg base ["value"] "is_whole" (defScope s_is_whole) f cdv A env s H E).nox (defBody s_is_whole) (upS ⟨W, Res.none, N0, H⟩ wr_is_whole) := by
  have hu : (A.deeper (envOfC "is_whole" (defScope s_is_whole) s.heap.objs.size f cdv)).units + 65 < cLine := by have := hr.room.un; omega
  have nd := sc_is_whole.nd
  exact (dss_one (ds_ret (de_and (de_isi (s := true) rfl (by rfl) T.m_isinstance boot_isinstance (de_var 0) (by rfl) T.m_int boot_int) (de_one (de_not (de_isi (s := true) rfl (by rfl) T.m_isinstance boot_isinstance (de_var 0) (by rfl) T.m_bool boot_bool))))))
theorem ok_is_whole (T : Tx W mg) {f : Addr} {fd : FuncData} (Fn : Fun W.K "is_whole" "is_whole" s_is_whole f fd) : FnG P w W.K mg base CX0 1 f fd ["value"] (spP W 1 F_is_whole) :=
  ok_pure Fn sc_is_whole (by decide) (fun ds Φ h => len_is_whole h) fun cdv A env s H E N0 hr => ⟨wr_is_whole, dv_is_whole T cdv A env s H E N0 hr, fun ds Φ h => sem_is_whole ds Φ h⟩

def F_fraction_of : FXM := fun ds Φ Ψ => ∃ t b : Int, ds = [.int t, .int b] ∧ b.natAbs < 2 ^ 9000 ∧ (b = 0 → Ψ "InvalidNumber" (.str "zero")) ∧ (b ≠ 0 → Φ (dQ (Rat.divInt t b)))
theorem len_fraction_of {ds Φ Ψ} (h : F_fraction_of ds Φ Ψ) : ds.length = 2 := by obtain ⟨a, b, e, _⟩ := h; rw [e]; rfl
-- slots of fraction_of: 0 top, 1 bottom, 2 divisor
def ws_fraction_of (Ψ : Str → PyData → Prop) : WS :=
  (wSq (wIf (wTest (wOp fEq (wVar 1) (wC (.int 0))))
  (wRaiseM "InvalidNumber" Ψ (wC (.str "zero")))
  wNx)
  (wSq (wSet 2 (wCall fGcd (wCons (wVar 0) (wCons (wVar 1) wNil))))
  (wSq (wIf (wTest (wOp fLt (wVar 1) (wC (.int 0))))
  (wSet 2 (wNeg (wVar 2)))
  wNx)
  (wRet (wTup (wCons (wOp fDivZ (wVar 0) (wVar 2)) (wCons (wOp fDivZ (wVar 1) (wVar 2)) wNil)))))))

theorem gg_lt {t b : Int} (h : b ≠ 0) (hb : b.natAbs < 2 ^ 9000) : 0 < gg t b ∧ (gg t b).natAbs.log2 < 9000 := by
  have e : gg t b = gg t (b.natAbs : Int) := by unfold gg; rw [Int.natAbs_natCast]
  have l := gg_le (t := t) (b := (b.natAbs : Int)) (by omega)
  have p := gg_pos (t := t) (b := (b.natAbs : Int)) (by omega)
  rw [← e] at l p
  exact ⟨p, (Nat.log2_lt (by omega)).mpr (Nat.lt_of_le_of_lt (by omega) hb)⟩
theorem sem_fraction_of (ds : List PyData) (Φ : PyData → Prop) (Ψ : Str → PyData → Prop) (h : F_fraction_of ds Φ Ψ) : ws_fraction_of Ψ (retX Φ) (ev0 3 ds) := by
  obtain ⟨t, b, rfl, hs, h0, h⟩ := h
  refine ⟨fit_int _, fit_int _, ?_⟩
  rw [eqv_int]
  by_cases b0 : b = 0
  · rw [decide_eq_true b0]
    exact h0 b0
  · rw [decide_eq_false b0]
    have h := h b0
    obtain ⟨g0, gl⟩ := gg_lt (t := t) b0 hs
    show (if decide (b < 0) = true then _ else _)
    by_cases hb : b < 0
    · rw [decide_eq_true hb, if_pos rfl]
      have c : -gg t b ≠ 0 ∧ (-gg t b).natAbs.log2 < 9000 := ⟨by omega, by rw [Int.natAbs_neg]; exact gl⟩
      have e : Rat.divInt t b = Rat.divInt (-t) (-b) := by rw [Rat.neg_divInt_neg]
      rw [e] at h
      unfold dQ at h
      rw [cF_div (by omega), gg_neg, ← fdiv_flip (gg_dvd t b).1 g0, ← fdiv_flip (gg_dvd t b).2 g0] at h
      exact ⟨c, c, (by decide : 2 ≤ 100000), h⟩
    · rw [decide_eq_false hb, if_neg Bool.false_ne_true]
      have c : gg t b ≠ 0 ∧ (gg t b).natAbs.log2 < 9000 := ⟨by omega, gl⟩
      refine ⟨c, c, (by decide : 2 ≤ 100000), ?_⟩
      unfold dQ at h
      rw [cF_div (by omega)] at h
      exact h

theorem dv_fraction_of (T : Tx W mg) {er : Errs} {C_InvalidNumber : Addr} (e_InvalidNumber : CalE P w W.K mg base "InvalidNumber" "word" C_InvalidNumber) (x_InvalidNumber : er "InvalidNumber" = some (C_InvalidNumber, ("word" : Str))) (cdv : Value) (A : Around) (env : List Env) (s : Shared) (H : Hp) (E : XK) (N0 : Addr → Prop) (Ψ : Str → PyData → Prop) {f : Addr} (hr : Rg 2 (A.deeper (envOfC "fraction_of" (defScope s_fraction_of) s.heap.objs.size f cdv))) (hE : ErrTo W N0 H er E Ψ) :
    PSs (cxOf (L2.CX P w) P w W.K mg base ["top", "bottom", "divisor"] "fraction_of" (defScope s_fraction_of) f cdv A env s H E) (defBody s_fraction_of) (upS ⟨W, Res.none, N0, H⟩ (ws_fraction_of Ψ)) := by
  have hu : (A.deeper (envOfC "fraction_of" (defScope s_fraction_of) s.heap.objs.size f cdv)).units + 65 < cLine := by have := hr.room.un; omega
  have nd := sc_fraction_of.nd
  exact (dss_cons (ds_if (dt_cmp (op_eqU hu) od_eq (de_var 1) (de_int (s := true)) (nomark _)) (dss_one (ds_raiseM rfl (L2.takes_of rfl rfl rfl rfl) e_InvalidNumber x_InvalidNumber hr (by decide) (by rfl) (de_str (s := true)) hE (fun _ z => z))) dss_nil)
  (dss_cons (ds_set 2 nd (de_callG (s := true) cr_gcd cd_gcd (by rfl) T.m_gcd (da_cons (de_var 0) (da_cons (de_var 1) (da_nil (s := true))))))
  (dss_cons (ds_if (dt_cmp op_ltU od_lt (de_var 1) (de_int (s := true)) (nomark _)) (dss_one (ds_set 2 nd (de_neg (de_var 2)))) dss_nil)
  (dss_one (ds_ret (de_tup (da_cons (de_op op_fdivZ (od_divZ (s := true)) (de_var 0) (de_var 2)) (da_cons (de_op op_fdivZ (od_divZ (s := true)) (de_var 1) (de_var 2)) (da_nil (s := true))))))))))
theorem ok_fraction_of (T : Tx W mg) {er : Errs} {C_InvalidNumber : Addr} (e_InvalidNumber : CalE P w W.K mg base "InvalidNumber" "word" C_InvalidNumber) (x_InvalidNumber : er "InvalidNumber" = some (C_InvalidNumber, ("word" : Str))) {f : Addr} {fd : FuncData} (Fn : Fun W.K "fraction_of" "fraction_of" s_fraction_of f fd) : FnG P w W.K mg base (L2.CX P w) 3 f fd ["top", "bottom"] (spXM W er 2 F_fraction_of) :=
  ok_raisesM Fn sc_fraction_of (by decide) (fun ds Φ Ψ h => len_fraction_of h) fun cdv A env s H E N0 Ψ hr hE => ⟨ws_fraction_of Ψ, dv_fraction_of T e_InvalidNumber x_InvalidNumber cdv A env s H E N0 Ψ hr hE, fun ds Φ h => sem_fraction_of ds Φ Ψ h⟩

def F_is_fraction : FD := fun ds Φ => ∃ d, ds = [d] ∧ oddOk d ∧ Φ (.bool (frB d))
theorem len_is_fraction {ds Φ} (h : F_is_fraction ds Φ) : ds.length = 1 := by obtain ⟨a, e, _⟩ := h; rw [e]; rfl
-- slots of is_fraction: 0 value, 1 top, 2 bottom
def wk_is_fraction_0 : WS :=
  (wRet (wAndV (wOp fGt (wVar 2) (wC (.int 0))) (wOp fEq (wCall fGcd (wCons (wVar 1) (wCons (wVar 2) wNil))) (wC (.int 1)))))
def wk_is_fraction_1 : WS :=
  (wSq (wIf (wOr (wNot (wTest (wG F_is_whole 1 0 [0] (wCons (wVar 1) wNil) wNil))) (wNot (wTest (wG F_is_whole 1 0 [0] (wCons (wVar 2) wNil) wNil))))
  (wRet (wC (.bool false)))
  wNx)
  wk_is_fraction_0)
def wk_is_fraction_2 : WS :=
  (wSq (wAs (wVar 0) (gT 2 (gsCons (gN 1) (gsCons (gN 2) gsNil))))
  wk_is_fraction_1)
def wk_is_fraction_3 : WS :=
  (wSq (wIf (wOr (wNot (wTest (wIsi "tuple" (wVar 0)))) (wTest (wOp fNe (wCall fLen (wCons (wVar 0) wNil)) (wC (.int 2)))))
  (wRet (wC (.bool false)))
  wNx)
  wk_is_fraction_2)
def ws_is_fraction : WS :=
  wk_is_fraction_3
def wr_is_fraction : WS :=
  (wSq (wIf (wOr (wNot (wTest (wIsi "tuple" (wVar 0)))) (wTest (wOp fNe (wCall fLen (wCons (wVar 0) wNil)) (wC (.int 2)))))
  (wRet (wC (.bool false)))
  wNx)
  (wSq (wAs (wVar 0) (gT 2 (gsCons (gN 1) (gsCons (gN 2) gsNil))))
  (wSq (wIf (wOr (wNot (wTest (wG F_is_whole 1 0 [0] (wCons (wVar 1) wNil) wNil))) (wNot (wTest (wG F_is_whole 1 0 [0] (wCons (wVar 2) wNil) wNil))))
  (wRet (wC (.bool false)))
  wNx)
  (wRet (wAndV (wOp fGt (wVar 2) (wC (.int 0))) (wOp fEq (wCall fGcd (wCons (wVar 1) (wCons (wVar 2) wNil))) (wC (.int 1))))))))

theorem frB_len {xs : List PyData} (h : xs.length ≠ 2) : frB (.tuple xs) = false := by
  unfold frB
  split
  · rename_i x y e
    cases e
    exact absurd rfl h
  · rfl
theorem sem_is_fraction (ds : List PyData) (Φ : PyData → Prop) (h : F_is_fraction ds Φ) : ws_is_fraction (retX Φ) (ev0 3 ds) := by
  obtain ⟨d, rfl, ⟨hp, hx⟩, h⟩ := h
  have hk := plainO_k hp
  cases d with
  | int i => exact ⟨false, rfl, hk, h⟩
  | bool b => exact ⟨false, rfl, hk, h⟩
  | none => exact ⟨false, rfl, hk, h⟩
  | str x => exact ⟨false, rfl, hk, h⟩
  | list x => exact ⟨false, rfl, hk, h⟩
  | dict x => exact ⟨false, rfl, hk, h⟩
  | tuple xs =>
    refine ⟨true, rfl, hk, fit_int _, fit_int _, ?_⟩
    rw [eqv_int]
    by_cases l2 : xs.length = 2
    · match xs, l2, hx with
      | [x, y], _, hx =>
        refine ⟨rfl, (by decide : 1 < 3), (by decide : 2 < 3), rfl, rfl, x, rfl, hx _ rfl x List.mem_cons_self, ?_⟩
        cases x with
        | int x =>
          refine ⟨rfl, rfl, y, rfl, hx _ rfl y (List.mem_cons_of_mem _ List.mem_cons_self), ?_⟩
          cases y with
          | int y =>
            have h : Φ (.bool (decide (0 < y) && decide (gg x y = 1))) := h
            show (if decide (0 < y) = true then _ else _)
            by_cases hy : 0 < y
            · rw [decide_eq_true hy, if_pos rfl]
              refine ⟨fit_int _, fit_int _, ?_⟩
              rw [eqv_int]
              rw [decide_eq_true hy, Bool.true_and] at h
              exact h
            · rw [decide_eq_false hy, if_neg Bool.false_ne_true]
              rw [decide_eq_false hy, Bool.false_and] at h
              exact h
          | _ => exact h
        | _ => exact h
    · rw [frB_len l2] at h
      rw [decide_eq_false (by omega)]
      exact h

theorem dv_is_fraction (T : Tx W mg) (c_is_whole : Cal P w W.K mg base 1 "is_whole" s_is_whole ["value"] (spP W 1 F_is_whole)) (cdv : Value) (A : Around) (env : List Env) (s : Shared) (H : Hp) (E : XK) (N0 : Addr → Prop) {f : Addr} (hr : Rg 1 (A.deeper (envOfC "is_fraction" (defScope s_is_fraction) s.heap.objs.size f cdv))) :
    PSs (cxOf CX0 P w W.K mg base ["value", "top", "bottom"] "is_fraction" (defScope s_is_fraction) f cdv A env s H E).nox (defBody s_is_fraction) (upS ⟨W, Res.none, N0, H⟩ wr_is_fraction) := by
  have hu : (A.deeper (envOfC "is_fraction" (defScope s_is_fraction) s.heap.objs.size f cdv)).units + 65 < cLine := by have := hr.room.un; omega
  have nd := sc_is_fraction.nd
  exact (dss_cons (ds_if (dt_pw (dw_or (dt_not (dt_val (de_isi (s := true) rfl (by rfl) T.m_isinstance boot_isinstance (de_var 0) (by rfl) T.m_tuple boot_tuple))) (dw_or1 (dt_cmp (op_neU hu) od_ne (de_callB (s := true) call_len cd_len (by rfl) T.m_len boot_len (da_cons (de_var 0) (da_nil (s := true)))) (de_int (s := true)) (nomark _))))) (dss_one (ds_ret (de_bl (s := true)))) dss_nil)
  (dss_cons (ds_asg (de_var 0) (dg_tup rfl rfl (dgs_cons (dg_name 1 nd) (dgs_cons (dg_name 2 nd) dgs_nil))))
  (dss_cons (ds_if (dt_pw (dw_or (dt_not (dt_val (de_callP c_is_whole rfl hr kb_is_whole_1 (by decide) (by rfl) (da_cons (de_var 1) (da_nil (s := true)))))) (dw_or1 (dt_not (dt_val (de_callP c_is_whole rfl hr kb_is_whole_1 (by decide) (by rfl) (da_cons (de_var 2) (da_nil (s := true))))))))) (dss_one (ds_ret (de_bl (s := true)))) dss_nil)
  (dss_one (ds_ret (de_and (de_cmp op_gt (od_gt (s := true)) (de_var 2) (de_int (s := true)) (nomark _)) (de_one (de_cmp (op_eqU hu) (od_eq (s := true)) (de_callG (s := true) cr_gcd cd_gcd (by rfl) T.m_gcd (da_cons (de_var 1) (da_cons (de_var 2) (da_nil (s := true))))) (de_int (s := true)) (nomark _)))))))))
theorem ok_is_fraction (T : Tx W mg) (c_is_whole : Cal P w W.K mg base 1 "is_whole" s_is_whole ["value"] (spP W 1 F_is_whole)) {f : Addr} {fd : FuncData} (Fn : Fun W.K "is_fraction" "is_fraction" s_is_fraction f fd) : FnG P w W.K mg base CX0 2 f fd ["value"] (spP W 1 F_is_fraction) :=
  ok_pure Fn sc_is_fraction (by decide) (fun ds Φ h => len_is_fraction h) fun cdv A env s H E N0 hr => ⟨wr_is_fraction, dv_is_fraction T c_is_whole cdv A env s H E N0 hr, fun ds Φ h => sem_is_fraction ds Φ h⟩

def F_less : FD := fun ds Φ => ∃ a b : Rat, ds = [dQ a, dQ b] ∧ Sz 9000 a ∧ Sz 9000 b ∧ Φ (.bool (decide (a < b)))
theorem len_less {ds Φ} (h : F_less ds Φ) : ds.length = 2 := by obtain ⟨a, b, e, _⟩ := h; rw [e]; rfl
-- slots of less: 0 one, 1 other
def wk_less_0 : WS :=
  (wRet (wOp fLt (wOp fMul (wOp fIx (wVar 0) (wC (.int 0))) (wOp fIx (wVar 1) (wC (.int 1)))) (wOp fMul (wOp fIx (wVar 1) (wC (.int 0))) (wOp fIx (wVar 0) (wC (.int 1))))))
def ws_less : WS :=
  wk_less_0
def wr_less : WS :=
  (wRet (wOp fLt (wOp fMul (wOp fIx (wVar 0) (wC (.int 0))) (wOp fIx (wVar 1) (wC (.int 1)))) (wOp fMul (wOp fIx (wVar 1) (wC (.int 0))) (wOp fIx (wVar 0) (wC (.int 1))))))

theorem sem_less (ds : List PyData) (Φ : PyData → Prop) (h : F_less ds Φ) : ws_less (retX Φ) (ev0 2 ds) := by
  obtain ⟨a, b, rfl, ha, hb, h⟩ := h
  rw [← lt_num] at h
  exact ⟨_, rfl, _, rfl, cmulw ha.1 hb.2, _, rfl, _, rfl, cmulw hb.1 ha.2, h⟩

theorem dv_less (T : Tx W mg) (cdv : Value) (A : Around) (env : List Env) (s : Shared) (H : Hp) (E : XK) (N0 : Addr → Prop) {f : Addr} (hr : Rg 0 (A.deeper (envOfC "less" (defScope s_less) s.heap.objs.size f cdv))) :
    PSs (cxOf CX0 P w W.K mg base ["one", "other"] "less" (defScope s_less) f cdv A env s H E).nox (defBody s_less) (upS ⟨W, Res.none, N0, H⟩ wr_less) := by
  have hu : (A.deeper (envOfC "less" (defScope s_less) s.heap.objs.size f cdv)).units + 65 < cLine := by have := hr.room.un; omega
  have nd := sc_less.nd
  exact (dss_one (ds_ret (de_cmp op_ltU (od_lt (s := true)) (de_op op_mulU (od_mul (s := true)) (de_ix rfl (de_var 0) (de_int (s := true)) (fun _ _ => rfl)) (de_ix rfl (de_var 1) (de_int (s := true)) (fun _ _ => rfl))) (de_op op_mulU (od_mul (s := true)) (de_ix rfl (de_var 1) (de_int (s := true)) (fun _ _ => rfl)) (de_ix rfl (de_var 0) (de_int (s := true)) (fun _ _ => rfl))) (nomark _))))
theorem ok_less (T : Tx W mg) {f : Addr} {fd : FuncData} (Fn : Fun W.K "less" "less" s_less f fd) : FnG P w W.K mg base CX0 1 f fd ["one", "other"] (spP W 2 F_less) :=
  ok_pure Fn sc_less (by decide) (fun ds Φ h => len_less h) fun cdv A env s H E N0 hr => ⟨wr_less, dv_less T cdv A env s H E N0 hr, fun ds Φ h => sem_less ds Φ h⟩

def negE (o : Option Rat) : Option Rat := o.map fun q => -q
def F_negative : FD := fun ds Φ => ∃ o : Option Rat, ds = [dE o] ∧ Φ (dE (negE o))
theorem len_negative {ds Φ} (h : F_negative ds Φ) : ds.length = 1 := by obtain ⟨a, e, _⟩ := h; rw [e]; rfl
-- slots of negative: 0 value
def wk_negative_0 : WS :=
  (wRet (wTup (wCons (wNeg (wOp fIx (wVar 0) (wC (.int 0)))) (wCons (wOp fIx (wVar 0) (wC (.int 1))) wNil))))
def wk_negative_1 : WS :=
  (wSq (wIf (wTest (wOp fIs (wVar 0) (wC .none)))
  (wRet (wC .none))
  wNx)
  wk_negative_0)
def ws_negative : WS :=
  wk_negative_1
def wr_negative : WS :=
  (wSq (wIf (wTest (wOp fIs (wVar 0) (wC .none)))
  (wRet (wC .none))
  wNx)
  (wRet (wTup (wCons (wNeg (wOp fIx (wVar 0) (wC (.int 0)))) (wCons (wOp fIx (wVar 0) (wC (.int 1))) wNil)))))

theorem sem_negative (ds : List PyData) (Φ : PyData → Prop) (h : F_negative ds Φ) : ws_negative (retX Φ) (ev0 1 ds) := by
  obtain ⟨o, rfl, h⟩ := h
  cases o with
  | none => exact h
  | some q => exact ⟨_, rfl, _, rfl, (by decide : 2 ≤ 100000), h⟩

theorem dv_negative (T : Tx W mg) (cdv : Value) (A : Around) (env : List Env) (s : Shared) (H : Hp) (E : XK) (N0 : Addr → Prop) {f : Addr} (hr : Rg 0 (A.deeper (envOfC "negative" (defScope s_negative) s.heap.objs.size f cdv))) :
    PSs (cxOf CX0 P w W.K mg base ["value"] "negative" (defScope s_negative) f cdv A env s H E).nox (defBody s_negative) (upS ⟨W, Res.none, N0, H⟩ wr_negative) := by
  have hu : (A.deeper (envOfC "negative" (defScope s_negative) s.heap.objs.size f cdv)).units + 65 < cLine := by have := hr.room.un; omega
  have nd := sc_negative.nd
  exact (dss_cons (ds_if (dt_cmp op_isU od_is (de_var 0) (de_non (s := true)) (nomark _)) (dss_one (ds_ret (de_non (s := true)))) dss_nil)
  (dss_one (ds_ret (de_tup (da_cons (de_neg (de_ix rfl (de_var 0) (de_int (s := true)) (fun _ _ => rfl))) (da_cons (de_ix rfl (de_var 0) (de_int (s := true)) (fun _ _ => rfl)) (da_nil (s := true))))))))
theorem ok_negative (T : Tx W mg) {f : Addr} {fd : FuncData} (Fn : Fun W.K "negative" "negative" s_negative f fd) : FnG P w W.K mg base CX0 1 f fd ["value"] (spP W 1 F_negative) :=
  ok_pure Fn sc_negative (by decide) (fun ds Φ h => len_negative h) fun cdv A env s H E N0 hr => ⟨wr_negative, dv_negative T cdv A env s H E N0 hr, fun ds Φ h => sem_negative ds Φ h⟩

def F_plus : FD := fun ds Φ => ∃ a b : Rat, ds = [dQ a, dQ b] ∧ Sz 4000 a ∧ Sz 4000 b ∧ Φ (dQ (a + b))
theorem len_plus {ds Φ} (h : F_plus ds Φ) : ds.length = 2 := by obtain ⟨a, b, e, _⟩ := h; rw [e]; rfl
-- slots of plus: 0 one, 1 other
def wk_plus_0 : WS :=
  (wRet (wG (noRaiseM F_fraction_of) 2 0 [0, 1] (wCons (wOp fAdd (wOp fMul (wOp fIx (wVar 0) (wC (.int 0))) (wOp fIx (wVar 1) (wC (.int 1)))) (wOp fMul (wOp fIx (wVar 1) (wC (.int 0))) (wOp fIx (wVar 0) (wC (.int 1))))) (wCons (wOp fMul (wOp fIx (wVar 0) (wC (.int 1))) (wOp fIx (wVar 1) (wC (.int 1)))) wNil)) wNil))
def ws_plus : WS :=
  wk_plus_0
def wr_plus : WS :=
  (wRet (wG (noRaiseM F_fraction_of) 2 0 [0, 1] (wCons (wOp fAdd (wOp fMul (wOp fIx (wVar 0) (wC (.int 0))) (wOp fIx (wVar 1) (wC (.int 1)))) (wOp fMul (wOp fIx (wVar 1) (wC (.int 0))) (wOp fIx (wVar 0) (wC (.int 1))))) (wCons (wOp fMul (wOp fIx (wVar 0) (wC (.int 1))) (wOp fIx (wVar 1) (wC (.int 1)))) wNil)) wNil))

theorem add_num (a b : Rat) : a + b = Rat.divInt (a.num * (b.den : Int) + b.num * (a.den : Int)) ((a.den : Int) * (b.den : Int)) := by
  have ha := a.den_pos
  have hb := b.den_pos
  rw [← Rat.divInt_add_divInt _ _ (by omega) (by omega), Rat.num_divInt_den, Rat.num_divInt_den]
theorem sem_plus (ds : List PyData) (Φ : PyData → Prop) (h : F_plus ds Φ) : ws_plus (retX Φ) (ev0 2 ds) := by
  obtain ⟨a, b, rfl, ha, hb, h⟩ := h
  have up : ∀ {v : Int}, v.natAbs < 2 ^ 4000 → v.natAbs < 2 ^ 9000 := fun h => Nat.lt_of_lt_of_le h (p2 (by decide))
  have an := up ha.1
  have ad := up (show (a.den : Int).natAbs < 2 ^ 4000 from ha.2)
  have bn := up hb.1
  have bd := up (show (b.den : Int).natAbs < 2 ^ 4000 from hb.2)
  have a0 := a.den_pos
  have b0 := b.den_pos
  refine ⟨_, rfl, _, rfl, cmulw an bd, _, rfl, _, rfl, cmulw bn ad, _, rfl, _, rfl, cmulw ad bd, rfl, rfl, _, _, rfl, ?_, fun e => absurd e (Int.ne_of_gt (Int.mul_pos (by show (0 : Int) < (a.den : Int); omega) (by show (0 : Int) < (b.den : Int); omega))), fun _ => ?_⟩
  · show ((a.den : Int) * (b.den : Int)).natAbs < 2 ^ 9000
    rw [Int.natAbs_mul]
    refine Nat.lt_of_lt_of_le (Nat.mul_lt_mul'' ha.2 hb.2) ?_
    rw [← Nat.pow_add]
    exact p2 (by decide)
  · rw [add_num] at h
    exact h

theorem dv_plus (T : Tx W mg) {er : Errs} (c_fraction_of : CalX P w W.K mg base 3 "fraction_of" s_fraction_of ["top", "bottom"] (spXM W er 2 F_fraction_of)) (cdv : Value) (A : Around) (env : List Env) (s : Shared) (H : Hp) (E : XK) (N0 : Addr → Prop) {f : Addr} (hr : Rg 3 (A.deeper (envOfC "plus" (defScope s_plus) s.heap.objs.size f cdv))) :
    PSs (cxOf CX0 P w W.K mg base ["one", "other"] "plus" (defScope s_plus) f cdv A env s H E).nox (defBody s_plus) (upS ⟨W, Res.none, N0, H⟩ wr_plus) := by
  have hu : (A.deeper (envOfC "plus" (defScope s_plus) s.heap.objs.size f cdv)).units + 65 < cLine := by have := hr.room.un; omega
  have nd := sc_plus.nd
  exact (dss_one (ds_ret (de_callXMP c_fraction_of rfl hr kb_fraction_of_2 (by decide) (by rfl) (da_cons (de_op op_addU (od_add (s := true)) (de_op op_mulU (od_mul (s := true)) (de_ix rfl (de_var 0) (de_int (s := true)) (fun _ _ => rfl)) (de_ix rfl (de_var 1) (de_int (s := true)) (fun _ _ => rfl))) (de_op op_mulU (od_mul (s := true)) (de_ix rfl (de_var 1) (de_int (s := true)) (fun _ _ => rfl)) (de_ix rfl (de_var 0) (de_int (s := true)) (fun _ _ => rfl)))) (da_cons (de_op op_mulU (od_mul (s := true)) (de_ix rfl (de_var 0) (de_int (s := true)) (fun _ _ => rfl)) (de_ix rfl (de_var 1) (de_int (s := true)) (fun _ _ => rfl))) (da_nil (s := true)))))))
theorem ok_plus (T : Tx W mg) {er : Errs} (c_fraction_of : CalX P w W.K mg base 3 "fraction_of" s_fraction_of ["top", "bottom"] (spXM W er 2 F_fraction_of)) {f : Addr} {fd : FuncData} (Fn : Fun W.K "plus" "plus" s_plus f fd) : FnG P w W.K mg base CX0 4 f fd ["one", "other"] (spP W 2 F_plus) :=
  ok_pure Fn sc_plus (by decide) (fun ds Φ h => len_plus h) fun cdv A env s H E N0 hr => ⟨wr_plus, dv_plus T c_fraction_of cdv A env s H E N0 hr, fun ds Φ h => sem_plus ds Φ h⟩

def F_minus : FD := fun ds Φ => ∃ a b : Rat, ds = [dQ a, dQ b] ∧ Sz 4000 a ∧ Sz 4000 b ∧ Φ (dQ (a - b))
theorem len_minus {ds Φ} (h : F_minus ds Φ) : ds.length = 2 := by obtain ⟨a, b, e, _⟩ := h; rw [e]; rfl
-- slots of minus: 0 one, 1 other
def wk_minus_0 : WS :=
  (wRet (wG (noRaiseM F_fraction_of) 2 0 [0, 1] (wCons (wOp fSub (wOp fMul (wOp fIx (wVar 0) (wC (.int 0))) (wOp fIx (wVar 1) (wC (.int 1)))) (wOp fMul (wOp fIx (wVar 1) (wC (.int 0))) (wOp fIx (wVar 0) (wC (.int 1))))) (wCons (wOp fMul (wOp fIx (wVar 0) (wC (.int 1))) (wOp fIx (wVar 1) (wC (.int 1)))) wNil)) wNil))
def ws_minus : WS :=
  wk_minus_0
def wr_minus : WS :=
  (wRet (wG (noRaiseM F_fraction_of) 2 0 [0, 1] (wCons (wOp fSub (wOp fMul (wOp fIx (wVar 0) (wC (.int 0))) (wOp fIx (wVar 1) (wC (.int 1)))) (wOp fMul (wOp fIx (wVar 1) (wC (.int 0))) (wOp fIx (wVar 0) (wC (.int 1))))) (wCons (wOp fMul (wOp fIx (wVar 0) (wC (.int 1))) (wOp fIx (wVar 1) (wC (.int 1)))) wNil)) wNil))

theorem sub_num (a b : Rat) : a - b = Rat.divInt (a.num * (b.den : Int) - b.num * (a.den : Int)) ((a.den : Int) * (b.den : Int)) := by
  have ha := a.den_pos
  have hb := b.den_pos
  rw [← Rat.divInt_sub_divInt _ _ (by omega) (by omega), Rat.num_divInt_den, Rat.num_divInt_den]
theorem sem_minus (ds : List PyData) (Φ : PyData → Prop) (h : F_minus ds Φ) : ws_minus (retX Φ) (ev0 2 ds) := by
  obtain ⟨a, b, rfl, ha, hb, h⟩ := h
  have up : ∀ {v : Int}, v.natAbs < 2 ^ 4000 → v.natAbs < 2 ^ 9000 := fun h => Nat.lt_of_lt_of_le h (p2 (by decide))
  have an := up ha.1
  have ad := up (show (a.den : Int).natAbs < 2 ^ 4000 from ha.2)
  have bn := up hb.1
  have bd := up (show (b.den : Int).natAbs < 2 ^ 4000 from hb.2)
  have a0 := a.den_pos
  have b0 := b.den_pos
  refine ⟨_, rfl, _, rfl, cmulw an bd, _, rfl, _, rfl, cmulw bn ad, _, rfl, _, rfl, cmulw ad bd, rfl, rfl, _, _, rfl, ?_, fun e => absurd e (Int.ne_of_gt (Int.mul_pos (by show (0 : Int) < (a.den : Int); omega) (by show (0 : Int) < (b.den : Int); omega))), fun _ => ?_⟩
  · show ((a.den : Int) * (b.den : Int)).natAbs < 2 ^ 9000
    rw [Int.natAbs_mul]
    refine Nat.lt_of_lt_of_le (Nat.mul_lt_mul'' ha.2 hb.2) ?_
    rw [← Nat.pow_add]
    exact p2 (by decide)
  · rw [sub_num] at h
    exact h

theorem dv_minus (T : Tx W mg) {er : Errs} (c_fraction_of : CalX P w W.K mg base 3 "fraction_of" s_fraction_of ["top", "bottom"] (spXM W er 2 F_fraction_of)) (cdv : Value) (A : Around) (env : List Env) (s : Shared) (H : Hp) (E : XK) (N0 : Addr → Prop) {f : Addr} (hr : Rg 3 (A.deeper (envOfC "minus" (defScope s_minus) s.heap.objs.size f cdv))) :
    PSs (cxOf CX0 P w W.K mg base ["one", "other"] "minus" (defScope s_minus) f cdv A env s H E).nox (defBody s_minus) (upS ⟨W, Res.none, N0, H⟩ wr_minus) := by
  have hu : (A.deeper (envOfC "minus" (defScope s_minus) s.heap.objs.size f cdv)).units + 65 < cLine := by have := hr.room.un; omega
  have nd := sc_minus.nd
  exact (dss_one (ds_ret (de_callXMP c_fraction_of rfl hr kb_fraction_of_2 (by decide) (by rfl) (da_cons (de_op op_sub (od_sub (s := true)) (de_op op_mulU (od_mul (s := true)) (de_ix rfl (de_var 0) (de_int (s := true)) (fun _ _ => rfl)) (de_ix rfl (de_var 1) (de_int (s := true)) (fun _ _ => rfl))) (de_op op_mulU (od_mul (s := true)) (de_ix rfl (de_var 1) (de_int (s := true)) (fun _ _ => rfl)) (de_ix rfl (de_var 0) (de_int (s := true)) (fun _ _ => rfl)))) (da_cons (de_op op_mulU (od_mul (s := true)) (de_ix rfl (de_var 0) (de_int (s := true)) (fun _ _ => rfl)) (de_ix rfl (de_var 1) (de_int (s := true)) (fun _ _ => rfl))) (da_nil (s := true)))))))
theorem ok_minus (T : Tx W mg) {er : Errs} (c_fraction_of : CalX P w W.K mg base 3 "fraction_of" s_fraction_of ["top", "bottom"] (spXM W er 2 F_fraction_of)) {f : Addr} {fd : FuncData} (Fn : Fun W.K "minus" "minus" s_minus f fd) : FnG P w W.K mg base CX0 4 f fd ["one", "other"] (spP W 2 F_minus) :=
  ok_pure Fn sc_minus (by decide) (fun ds Φ h => len_minus h) fun cdv A env s H E N0 hr => ⟨wr_minus, dv_minus T c_fraction_of cdv A env s H E N0 hr, fun ds Φ h => sem_minus ds Φ h⟩

def F_times : FD := fun ds Φ => ∃ a b : Rat, ds = [dQ a, dQ b] ∧ Sz 4000 a ∧ Sz 4000 b ∧ Φ (dQ (a * b))
theorem len_times {ds Φ} (h : F_times ds Φ) : ds.length = 2 := by obtain ⟨a, b, e, _⟩ := h; rw [e]; rfl
-- slots of times: 0 one, 1 other
def wk_times_0 : WS :=
  (wRet (wG (noRaiseM F_fraction_of) 2 0 [0, 1] (wCons (wOp fMul (wOp fIx (wVar 0) (wC (.int 0))) (wOp fIx (wVar 1) (wC (.int 0)))) (wCons (wOp fMul (wOp fIx (wVar 0) (wC (.int 1))) (wOp fIx (wVar 1) (wC (.int 1)))) wNil)) wNil))
def ws_times : WS :=
  wk_times_0
def wr_times : WS :=
  (wRet (wG (noRaiseM F_fraction_of) 2 0 [0, 1] (wCons (wOp fMul (wOp fIx (wVar 0) (wC (.int 0))) (wOp fIx (wVar 1) (wC (.int 0)))) (wCons (wOp fMul (wOp fIx (wVar 0) (wC (.int 1))) (wOp fIx (wVar 1) (wC (.int 1)))) wNil)) wNil))

theorem mul_num (a b : Rat) : a * b = Rat.divInt (a.num * b.num) ((a.den : Int) * (b.den : Int)) := by
  rw [← Rat.divInt_mul_divInt, Rat.num_divInt_den, Rat.num_divInt_den]
theorem sem_times (ds : List PyData) (Φ : PyData → Prop) (h : F_times ds Φ) : ws_times (retX Φ) (ev0 2 ds) := by
  obtain ⟨a, b, rfl, ha, hb, h⟩ := h
  have up : ∀ {v : Int}, v.natAbs < 2 ^ 4000 → v.natAbs < 2 ^ 9000 := fun h => Nat.lt_of_lt_of_le h (p2 (by decide))
  have an := up ha.1
  have ad := up (show (a.den : Int).natAbs < 2 ^ 4000 from ha.2)
  have bn := up hb.1
  have bd := up (show (b.den : Int).natAbs < 2 ^ 4000 from hb.2)
  have a0 := a.den_pos
  have b0 := b.den_pos
  refine ⟨_, rfl, _, rfl, cmulw an bn, _, rfl, _, rfl, cmulw ad bd, rfl, rfl, _, _, rfl, ?_, fun e => absurd e (Int.ne_of_gt (Int.mul_pos (by show (0 : Int) < (a.den : Int); omega) (by show (0 : Int) < (b.den : Int); omega))), fun _ => ?_⟩
  · show ((a.den : Int) * (b.den : Int)).natAbs < 2 ^ 9000
    rw [Int.natAbs_mul]
    refine Nat.lt_of_lt_of_le (Nat.mul_lt_mul'' ha.2 hb.2) ?_
    rw [← Nat.pow_add]
    exact p2 (by decide)
  · rw [mul_num] at h
    exact h

theorem dv_times (T : Tx W mg) {er : Errs} (c_fraction_of : CalX P w W.K mg base 3 "fraction_of" s_fraction_of ["top", "bottom"] (spXM W er 2 F_fraction_of)) (cdv : Value) (A : Around) (env : List Env) (s : Shared) (H : Hp) (E : XK) (N0 : Addr → Prop) {f : Addr} (hr : Rg 3 (A.deeper (envOfC "times" (defScope s_times) s.heap.objs.size f cdv))) :
    PSs (cxOf CX0 P w W.K mg base ["one", "other"] "times" (defScope s_times) f cdv A env s H E).nox (defBody s_times) (upS ⟨W, Res.none, N0, H⟩ wr_times) := by
  have hu : (A.deeper (envOfC "times" (defScope s_times) s.heap.objs.size f cdv)).units + 65 < cLine := by have := hr.room.un; omega
  have nd := sc_times.nd
  exact (dss_one (ds_ret (de_callXMP c_fraction_of rfl hr kb_fraction_of_2 (by decide) (by rfl) (da_cons (de_op op_mulU (od_mul (s := true)) (de_ix rfl (de_var 0) (de_int (s := true)) (fun _ _ => rfl)) (de_ix rfl (de_var 1) (de_int (s := true)) (fun _ _ => rfl))) (da_cons (de_op op_mulU (od_mul (s := true)) (de_ix rfl (de_var 0) (de_int (s := true)) (fun _ _ => rfl)) (de_ix rfl (de_var 1) (de_int (s := true)) (fun _ _ => rfl))) (da_nil (s := true)))))))
theorem ok_times (T : Tx W mg) {er : Errs} (c_fraction_of : CalX P w W.K mg base 3 "fraction_of" s_fraction_of ["top", "bottom"] (spXM W er 2 F_fraction_of)) {f : Addr} {fd : FuncData} (Fn : Fun W.K "times" "times" s_times f fd) : FnG P w W.K mg base CX0 4 f fd ["one", "other"] (spP W 2 F_times) :=
  ok_pure Fn sc_times (by decide) (fun ds Φ h => len_times h) fun cdv A env s H E N0 hr => ⟨wr_times, dv_times T c_fraction_of cdv A env s H E N0 hr, fun ds Φ h => sem_times ds Φ h⟩

def F_ratio : FXM := fun ds Φ Ψ => ∃ a b : Rat, ds = [dQ a, dQ b] ∧ Sz 4000 a ∧ Sz 4000 b ∧ (b = 0 → Ψ "InvalidNumber" (.str "zero")) ∧ (b ≠ 0 → Φ (dQ (a / b)))
theorem len_ratio {ds Φ Ψ} (h : F_ratio ds Φ Ψ) : ds.length = 2 := by obtain ⟨a, b, e, _⟩ := h; rw [e]; rfl
-- slots of ratio: 0 one, 1 other
def ws_ratio (Ψ : Str → PyData → Prop) : WS :=
  (wRetM Ψ (wGEM F_fraction_of 2 0 [0, 1] (wCons (wOp fMul (wOp fIx (wVar 0) (wC (.int 0))) (wOp fIx (wVar 1) (wC (.int 1)))) (wCons (wOp fMul (wOp fIx (wVar 0) (wC (.int 1))) (wOp fIx (wVar 1) (wC (.int 0)))) wNil)) wNil))

theorem div_num (a b : Rat) (hb : b ≠ 0) : a / b = Rat.divInt (a.num * (b.den : Int)) ((a.den : Int) * b.num) := by
  have a0 := den_pos a
  have b0 := den_pos b
  have bn : b.num ≠ 0 := fun e => hb (Rat.num_eq_zero.mp e)
  have e : Rat.divInt (a.num * (b.den : Int)) ((a.den : Int) * b.num) * b = a := by
    conv => lhs; rhs; rw [← Rat.num_divInt_den b]
    rw [Rat.divInt_mul_divInt]
    have e1 : a.num * (b.den : Int) * b.num = a.num * ((b.den : Int) * b.num) := Int.mul_assoc _ _ _
    have e2 : (a.den : Int) * b.num * (b.den : Int) = (a.den : Int) * ((b.den : Int) * b.num) := by rw [Int.mul_assoc, Int.mul_comm b.num]
    rw [e1, e2, Rat.divInt_mul_right (Int.mul_ne_zero (by omega) bn), Rat.num_divInt_den]
  conv => lhs; rw [← e]
  exact Rat.mul_div_cancel hb
theorem sem_ratio (ds : List PyData) (Φ : PyData → Prop) (Ψ : Str → PyData → Prop) (h : F_ratio ds Φ Ψ) : ws_ratio Ψ (retX Φ) (ev0 2 ds) := by
  obtain ⟨a, b, rfl, ha, hb, h0, h⟩ := h
  have a0 := den_pos a
  have ad : ((a.den : Int)).natAbs < 2 ^ 4000 := ha.2
  have bd : ((b.den : Int)).natAbs < 2 ^ 4000 := hb.2
  refine ⟨_, rfl, _, rfl, cmulw (le4 ha.1) (le4 bd), _, rfl, _, rfl, cmulw (le4 ad) (le4 hb.1), rfl, rfl, _, _, rfl, mulLt ad hb.1 (by decide), fun e => h0 ?_, fun e => ?_⟩
  · rcases Int.mul_eq_zero.mp e with z | z
    · have : (a.den : Int) = 0 := z
      omega
    · exact Rat.num_eq_zero.mp z
  · have bn : b ≠ 0 := fun z => e (by rw [z]; exact Int.mul_zero _)
    have h2 := h bn
    rw [div_num a b bn] at h2
    exact h2

theorem dv_ratio (T : Tx W mg) {er : Errs} (c_fraction_of : CalX P w W.K mg base 3 "fraction_of" s_fraction_of ["top", "bottom"] (spXM W er 2 F_fraction_of)) (cdv : Value) (A : Around) (env : List Env) (s : Shared) (H : Hp) (E : XK) (N0 : Addr → Prop) (Ψ : Str → PyData → Prop) {f : Addr} (hr : Rg 3 (A.deeper (envOfC "ratio" (defScope s_ratio) s.heap.objs.size f cdv))) (hE : ErrTo W N0 H er E Ψ) :
    PSs (cxOf (L2.CX P w) P w W.K mg base ["one", "other"] "ratio" (defScope s_ratio) f cdv A env s H E) (defBody s_ratio) (upS ⟨W, Res.none, N0, H⟩ (ws_ratio Ψ)) := by
  have hu : (A.deeper (envOfC "ratio" (defScope s_ratio) s.heap.objs.size f cdv)).units + 65 < cLine := by have := hr.room.un; omega
  have nd := sc_ratio.nd
  exact (dss_one (ds_retM (de_callEM (L2.takes_of rfl rfl rfl rfl) c_fraction_of rfl hr kb_fraction_of_2 (by decide) (by rfl) (da_cons (de_op op_mulU (od_mul (s := true)) (de_ix rfl (de_var 0) (de_int (s := true)) (fun _ _ => rfl)) (de_ix rfl (de_var 1) (de_int (s := true)) (fun _ _ => rfl))) (da_cons (de_op op_mulU (od_mul (s := true)) (de_ix rfl (de_var 0) (de_int (s := true)) (fun _ _ => rfl)) (de_ix rfl (de_var 1) (de_int (s := true)) (fun _ _ => rfl))) (da_nil (s := true))))) hE (fun _ z => z)))
theorem ok_ratio (T : Tx W mg) {er : Errs} (c_fraction_of : CalX P w W.K mg base 3 "fraction_of" s_fraction_of ["top", "bottom"] (spXM W er 2 F_fraction_of)) {f : Addr} {fd : FuncData} (Fn : Fun W.K "ratio" "ratio" s_ratio f fd) : FnG P w W.K mg base (L2.CX P w) 4 f fd ["one", "other"] (spXM W er 2 F_ratio) :=
  ok_raisesM Fn sc_ratio (by decide) (fun ds Φ Ψ h => len_ratio h) fun cdv A env s H E N0 Ψ hr hE => ⟨ws_ratio Ψ, dv_ratio T c_fraction_of cdv A env s H E N0 Ψ hr hE, fun ds Φ h => sem_ratio ds Φ Ψ h⟩

def F_least_of : FXM := fun ds Φ Ψ => ∃ xs : List Rat, ds = [.tuple (xs.map dQ)] ∧ xs.length ≤ 100 ∧ (∀ x ∈ xs, Sz 4000 x) ∧ (xs = [] → Ψ "Refused" (.str "none")) ∧ ∀ m ∈ xs, (∀ x ∈ xs, m ≤ x) → Φ (dQ m)
theorem len_least_of {ds Φ Ψ} (h : F_least_of ds Φ Ψ) : ds.length = 1 := by obtain ⟨a, e, _⟩ := h; rw [e]; rfl
-- slots of least_of: 0 some, 1 least, 2 value
def ws_least_of (Ψ : Str → PyData → Prop) : WS :=
  (wSq (wIf (wNot (wTru (wVar 0)))
  (wRaiseM "Refused" Ψ (wC (.str "none")))
  wNx)
  (wSq (wSet 1 (wOp fIx (wVar 0) (wC (.int 0))))
  (wSq (wFor (wTupI (wVar 0)) (gN 2)
  (wIf (wTest (wG F_less 2 0 [0, 1] (wCons (wVar 2) (wCons (wVar 1) wNil)) wNil))
  (wSet 1 (wVar 2))
  wNx))
  (wRet (wVar 1)))))

theorem sem_least_of (ds : List PyData) (Φ : PyData → Prop) (Ψ : Str → PyData → Prop) (h : F_least_of ds Φ Ψ) : ws_least_of Ψ (retX Φ) (ev0 3 ds) := by
  obtain ⟨xs, rfl, hl, hs, h0, h⟩ := h
  cases xs with
  | nil => exact h0 rfl
  | cons x0 xr =>
    have up : ∀ {q : Rat}, Sz 4000 q → Sz 9000 q := fun z => z.mono (by omega)
    show wSq (wSet 1 (wOp fIx (wVar 0) (wC (.int 0)))) _ (retX Φ) [.d (.tuple ((x0 :: xr).map dQ)), .u, .u]
    refine sq ⟨_, atM (f := dQ) (xs := x0 :: xr) (i := 0) rfl, ?_⟩
    dsimp only
    refine sq (for_all (ds := (x0 :: xr).map dQ) (fun i ρ => ∃ (m : Rat) (x : Ent), ρ = [.d (.tuple ((x0 :: xr).map dQ)), .d (dQ m), x] ∧ m ∈ x0 :: xr ∧ ∀ y ∈ (x0 :: xr).take i, m ≤ y) (fun Ψ h => h) ⟨x0, .u, rfl, List.mem_cons_self, fun y hy => by simp at hy⟩ (fun i d ρ2 hd hj => ?_) fun ρ2 hj => ?_)
    · obtain ⟨m, x, rfl, hm, hle⟩ := hj
      obtain ⟨y, hy, rfl⟩ := map_at hd
      refine ⟨(by decide : 2 < 3), rfl, rfl, y, m, rfl, up (hs y (List.mem_of_getElem? hy)), up (hs m hm), ?_⟩
      by_cases c : y < m
      · rw [decide_eq_true c]
        refine ⟨y, _, rfl, List.mem_of_getElem? hy, fun z hz => ?_⟩
        rw [take_more hy] at hz
        rcases List.mem_append.mp hz with hz | hz
        · exact Rat.le_trans (Rat.le_of_lt c) (hle z hz)
        · rw [List.mem_singleton.mp hz]; exact Rat.le_refl
      · rw [decide_eq_false c]
        refine ⟨m, _, rfl, hm, fun z hz => ?_⟩
        rw [take_more hy] at hz
        rcases List.mem_append.mp hz with hz | hz
        · exact hle z hz
        · rw [List.mem_singleton.mp hz]; exact Rat.not_lt.mp c
    · obtain ⟨m, x, rfl, hm, hle⟩ := hj
      rw [List.length_map, List.take_length] at hle
      exact h m hm hle

theorem dv_least_of (T : Tx W mg) {er : Errs} (c_less : Cal P w W.K mg base 1 "less" s_less ["one", "other"] (spP W 2 F_less)) {C_Refused : Addr} (e_Refused : CalE P w W.K mg base "Refused" "word" C_Refused) (x_Refused : er "Refused" = some (C_Refused, ("word" : Str))) (cdv : Value) (A : Around) (env : List Env) (s : Shared) (H : Hp) (E : XK) (N0 : Addr → Prop) (Ψ : Str → PyData → Prop) {f : Addr} (hr : Rg 2 (A.deeper (envOfC "least_of" (defScope s_least_of) s.heap.objs.size f cdv))) (hE : ErrTo W N0 H er E Ψ) :
    PSs (cxOf (L2.CX P w) P w W.K mg base ["some", "least", "value"] "least_of" (defScope s_least_of) f cdv A env s H E) (defBody s_least_of) (upS ⟨W, Res.none, N0, H⟩ (ws_least_of Ψ)) := by
  have hu : (A.deeper (envOfC "least_of" (defScope s_least_of) s.heap.objs.size f cdv)).units + 65 < cLine := by have := hr.room.un; omega
  have nd := sc_least_of.nd
  exact (dss_cons (ds_if (dt_not (dt_tru rfl (de_var 0))) (dss_one (ds_raiseM rfl (L2.takes_of rfl rfl rfl rfl) e_Refused x_Refused hr (by decide) (by rfl) (de_str (s := true)) hE (fun _ z => z))) dss_nil)
  (dss_cons (ds_set 1 nd (de_ix rfl (de_var 0) (de_int (s := true)) (fun _ _ => rfl)))
  (dss_cons (ds_for (L2.passes_of rfl) rfl (di_tup rfl (de_var 0)) (dg_name 2 nd) (dss_one (ds_if (dt_val (de_callP c_less rfl hr kb_less_2 (by decide) (by rfl) (da_cons (de_var 2) (da_cons (de_var 1) (da_nil (s := true)))))) (dss_one (ds_set 1 nd (de_var 2))) dss_nil)))
  (dss_one (ds_ret (de_var 1))))))
theorem ok_least_of (T : Tx W mg) {er : Errs} (c_less : Cal P w W.K mg base 1 "less" s_less ["one", "other"] (spP W 2 F_less)) {C_Refused : Addr} (e_Refused : CalE P w W.K mg base "Refused" "word" C_Refused) (x_Refused : er "Refused" = some (C_Refused, ("word" : Str))) {f : Addr} {fd : FuncData} (Fn : Fun W.K "least_of" "least_of" s_least_of f fd) : FnG P w W.K mg base (L2.CX P w) 3 f fd ["some"] (spXM W er 1 F_least_of) :=
  ok_raisesM Fn sc_least_of (by decide) (fun ds Φ Ψ h => len_least_of h) fun cdv A env s H E N0 Ψ hr hE => ⟨ws_least_of Ψ, dv_least_of T c_less e_Refused x_Refused cdv A env s H E N0 Ψ hr hE, fun ds Φ h => sem_least_of ds Φ Ψ h⟩

def F_greatest_of : FXM := fun ds Φ Ψ => ∃ xs : List Rat, ds = [.tuple (xs.map dQ)] ∧ xs.length ≤ 100 ∧ (∀ x ∈ xs, Sz 4000 x) ∧ (xs = [] → Ψ "Refused" (.str "none")) ∧ ∀ m ∈ xs, (∀ x ∈ xs, x ≤ m) → Φ (dQ m)
theorem len_greatest_of {ds Φ Ψ} (h : F_greatest_of ds Φ Ψ) : ds.length = 1 := by obtain ⟨a, e, _⟩ := h; rw [e]; rfl
-- slots of greatest_of: 0 some, 1 greatest, 2 value
def ws_greatest_of (Ψ : Str → PyData → Prop) : WS :=
  (wSq (wIf (wNot (wTru (wVar 0)))
  (wRaiseM "Refused" Ψ (wC (.str "none")))
  wNx)
  (wSq (wSet 1 (wOp fIx (wVar 0) (wC (.int 0))))
  (wSq (wFor (wTupI (wVar 0)) (gN 2)
  (wIf (wTest (wG F_less 2 0 [0, 1] (wCons (wVar 1) (wCons (wVar 2) wNil)) wNil))
  (wSet 1 (wVar 2))
  wNx))
  (wRet (wVar 1)))))

theorem sem_greatest_of (ds : List PyData) (Φ : PyData → Prop) (Ψ : Str → PyData → Prop) (h : F_greatest_of ds Φ Ψ) : ws_greatest_of Ψ (retX Φ) (ev0 3 ds) := by
  obtain ⟨xs, rfl, hl, hs, h0, h⟩ := h
  cases xs with
  | nil => exact h0 rfl
  | cons x0 xr =>
    have up : ∀ {q : Rat}, Sz 4000 q → Sz 9000 q := fun z => z.mono (by omega)
    show wSq (wSet 1 (wOp fIx (wVar 0) (wC (.int 0)))) _ (retX Φ) [.d (.tuple ((x0 :: xr).map dQ)), .u, .u]
    refine sq ⟨_, atM (f := dQ) (xs := x0 :: xr) (i := 0) rfl, ?_⟩
    dsimp only
    refine sq (for_all (ds := (x0 :: xr).map dQ) (fun i ρ => ∃ (m : Rat) (x : Ent), ρ = [.d (.tuple ((x0 :: xr).map dQ)), .d (dQ m), x] ∧ m ∈ x0 :: xr ∧ ∀ y ∈ (x0 :: xr).take i, y ≤ m) (fun Ψ h => h) ⟨x0, .u, rfl, List.mem_cons_self, fun y hy => by simp at hy⟩ (fun i d ρ2 hd hj => ?_) fun ρ2 hj => ?_)
    · obtain ⟨m, x, rfl, hm, hle⟩ := hj
      obtain ⟨y, hy, rfl⟩ := map_at hd
      refine ⟨(by decide : 2 < 3), rfl, rfl, m, y, rfl, up (hs m hm), up (hs y (List.mem_of_getElem? hy)), ?_⟩
      by_cases c : m < y
      · rw [decide_eq_true c]
        refine ⟨y, _, rfl, List.mem_of_getElem? hy, fun z hz => ?_⟩
        rw [take_more hy] at hz
        rcases List.mem_append.mp hz with hz | hz
        · exact Rat.le_trans (hle z hz) (Rat.le_of_lt c)
        · rw [List.mem_singleton.mp hz]; exact Rat.le_refl
      · rw [decide_eq_false c]
        refine ⟨m, _, rfl, hm, fun z hz => ?_⟩
        rw [take_more hy] at hz
        rcases List.mem_append.mp hz with hz | hz
        · exact hle z hz
        · rw [List.mem_singleton.mp hz]; exact Rat.not_lt.mp c
    · obtain ⟨m, x, rfl, hm, hle⟩ := hj
      rw [List.length_map, List.take_length] at hle
      exact h m hm hle

theorem dv_greatest_of (T : Tx W mg) {er : Errs} (c_less : Cal P w W.K mg base 1 "less" s_less ["one", "other"] (spP W 2 F_less)) {C_Refused : Addr} (e_Refused : CalE P w W.K mg base "Refused" "word" C_Refused) (x_Refused : er "Refused" = some (C_Refused, ("word" : Str))) (cdv : Value) (A : Around) (env : List Env) (s : Shared) (H : Hp) (E : XK) (N0 : Addr → Prop) (Ψ : Str → PyData → Prop) {f : Addr} (hr : Rg 2 (A.deeper (envOfC "greatest_of" (defScope s_greatest_of) s.heap.objs.size f cdv))) (hE : ErrTo W N0 H er E Ψ) :
    PSs (cxOf (L2.CX P w) P w W.K mg base ["some", "greatest", "value"] "greatest_of" (defScope s_greatest_of) f cdv A env s H E) (defBody s_greatest_of) (upS ⟨W, Res.none, N0, H⟩ (ws_greatest_of Ψ)) := by
  have hu : (A.deeper (envOfC "greatest_of" (defScope s_greatest_of) s.heap.objs.size f cdv)).units + 65 < cLine := by have := hr.room.un; omega
  have nd := sc_greatest_of.nd
  exact (dss_cons (ds_if (dt_not (dt_tru rfl (de_var 0))) (dss_one (ds_raiseM rfl (L2.takes_of rfl rfl rfl rfl) e_Refused x_Refused hr (by decide) (by rfl) (de_str (s := true)) hE (fun _ z => z))) dss_nil)
  (dss_cons (ds_set 1 nd (de_ix rfl (de_var 0) (de_int (s := true)) (fun _ _ => rfl)))
  (dss_cons (ds_for (L2.passes_of rfl) rfl (di_tup rfl (de_var 0)) (dg_name 2 nd) (dss_one (ds_if (dt_val (de_callP c_less rfl hr kb_less_2 (by decide) (by rfl) (da_cons (de_var 1) (da_cons (de_var 2) (da_nil (s := true)))))) (dss_one (ds_set 1 nd (de_var 2))) dss_nil)))
  (dss_one (ds_ret (de_var 1))))))
theorem ok_greatest_of (T : Tx W mg) {er : Errs} (c_less : Cal P w W.K mg base 1 "less" s_less ["one", "other"] (spP W 2 F_less)) {C_Refused : Addr} (e_Refused : CalE P w W.K mg base "Refused" "word" C_Refused) (x_Refused : er "Refused" = some (C_Refused, ("word" : Str))) {f : Addr} {fd : FuncData} (Fn : Fun W.K "greatest_of" "greatest_of" s_greatest_of f fd) : FnG P w W.K mg base (L2.CX P w) 3 f fd ["some"] (spXM W er 1 F_greatest_of) :=
  ok_raisesM Fn sc_greatest_of (by decide) (fun ds Φ Ψ h => len_greatest_of h) fun cdv A env s H E N0 Ψ hr hE => ⟨ws_greatest_of Ψ, dv_greatest_of T c_less e_Refused x_Refused cdv A env s H E N0 Ψ hr hE, fun ds Φ h => sem_greatest_of ds Φ Ψ h⟩

def F_weighed : FD := fun ds Φ => ∃ (d e : PyData) (t u : Bool) (cs : List Int) (es : List (Option Rat)) (p r : Nat), ds = [d, e] ∧ seqOfD d = some (t, cs.map .int) ∧ seqOfD e = some (u, es.map dE) ∧ (∀ c ∈ cs, c.natAbs < 2 ^ r) ∧ (∀ x ∈ es, SzE p x) ∧
  (cs.zip es).length * (p + r + 1) + 1 ≤ 9000 ∧ (∀ x ∈ cs.zip es, x.1 ≠ 0 → x.2 ≠ none) ∧ Φ (dQ (wS cs es))
theorem len_weighed {ds Φ} (h : F_weighed ds Φ) : ds.length = 2 := by obtain ⟨a, b, _, _, _, _, _, _, e, _⟩ := h; rw [e]; rfl
-- slots of weighed: 0 coefficients, 1 point, 2 top, 3 bottom, 4 coefficient, 5 value
def wk_weighed_0 : WS :=
  (wSet 3 (wOp fMul (wVar 3) (wOp fIx (wVar 5) (wC (.int 1)))))
def wk_weighed_1 : WS :=
  (wSq (wSet 2 (wOp fAdd (wOp fMul (wVar 2) (wOp fIx (wVar 5) (wC (.int 1)))) (wOp fMul (wOp fMul (wVar 4) (wOp fIx (wVar 5) (wC (.int 0)))) (wVar 3))))
  wk_weighed_0)
def wk_weighed_2 : WS :=
  (wIf (wTest (wOp fNe (wVar 4) (wC (.int 0))))
  wk_weighed_1
  wNx)
def wk_weighed_3 : WS :=
  (wRet (wG (noRaiseM F_fraction_of) 2 0 [0, 1] (wCons (wVar 2) (wCons (wVar 3) wNil)) wNil))
def wk_weighed_4 : WS :=
  (wSq (wFor (wZipM (wCons (wVar 0) (wCons (wVar 1) wNil))) (gT 2 (gsCons (gN 4) (gsCons (gN 5) gsNil)))
  wk_weighed_2)
  wk_weighed_3)
def wk_weighed_5 : WS :=
  (wSq (wSet 2 (wC (.int 0)))
  (wSq (wSet 3 (wC (.int 1)))
  wk_weighed_4))
def ws_weighed : WS :=
  wk_weighed_5
def wr_weighed : WS :=
  (wSq (wSet 2 (wC (.int 0)))
  (wSq (wSet 3 (wC (.int 1)))
  (wSq (wFor (wZipM (wCons (wVar 0) (wCons (wVar 1) wNil))) (gT 2 (gsCons (gN 4) (gsCons (gN 5) gsNil)))
  (wIf (wTest (wOp fNe (wVar 4) (wC (.int 0))))
  (wSq (wSet 2 (wOp fAdd (wOp fMul (wVar 2) (wOp fIx (wVar 5) (wC (.int 1)))) (wOp fMul (wOp fMul (wVar 4) (wOp fIx (wVar 5) (wC (.int 0)))) (wVar 3))))
  (wSet 3 (wOp fMul (wVar 3) (wOp fIx (wVar 5) (wC (.int 1))))))
  wNx))
  (wRet (wG (noRaiseM F_fraction_of) 2 0 [0, 1] (wCons (wVar 2) (wCons (wVar 3) wNil)) wNil)))))

theorem sem_weighed (ds : List PyData) (Φ : PyData → Prop) (h : F_weighed ds Φ) : ws_weighed (retX Φ) (ev0 6 ds) := by
  obtain ⟨d, e, t, u, cs, es, p, r, rfl, h1, h2, hc, he, hN, hnz, h⟩ := h
  have hz : zipD (cs.map .int) (es.map dE) = (cs.zip es).map fun x => pairD (.int x.1) (dE x.2) := zipD_map _ _ _ _
  refine sq_set (sq_set ?_)
  refine sq (for_all (ds := zipD (cs.map .int) (es.map dE)) (fun i ρ => ∃ (T B : Int) (x y : Ent), ρ = [.d d, .d e, .d (.int T), .d (.int B), x, y] ∧ 0 < B ∧ T.natAbs < 2 ^ (i * (p + r + 1) + 1) ∧ B.natAbs < 2 ^ (i * (p + r + 1) + 1) ∧ Rat.divInt T B = sumQ (((cs.zip es).take i).map fun x => (x.1 : Rat) * valE x.2)) (fun Ψ h => ⟨_, _, t, u, _, _, rfl, h1, h2, h⟩) ⟨0, 1, _, _, rfl, by decide, by rw [Nat.zero_mul]; decide, by rw [Nat.zero_mul]; decide, rfl⟩ (fun i d' ρ2 hd hj => ?_) fun ρ2 hj => ?_)
  · obtain ⟨T, B, x, y, rfl, hB, hT, hB2, hv⟩ := hj
    rw [hz] at hd
    obtain ⟨q, hq, rfl⟩ := map_at hd
    have hm := zip_mem (List.mem_of_getElem? hq)
    have hi : i < (cs.zip es).length := (List.getElem?_eq_some_iff.mp hq).1
    have hle : (i + 1) * (p + r + 1) + 1 ≤ 9000 := Nat.le_trans (Nat.succ_le_succ (Nat.mul_le_mul_right _ hi)) hN
    have hmul : (i + 1) * (p + r + 1) = i * (p + r + 1) + (p + r + 1) := Nat.succ_mul _ _
    have hsn : sumQ (((cs.zip es).take (i + 1)).map fun x => (x.1 : Rat) * valE x.2) = Rat.divInt T B + (q.1 : Rat) * valE q.2 := by
      rw [take_more hq, List.map_append, sumQ_append, ← hv]
      exact congrArg _ (sumQ_one _)
    refine ⟨rfl, (by decide : 4 < 6), (by decide : 5 < 6), fit_int _, fit_int _, ?_⟩
    rw [eqv_int]
    by_cases c0 : q.1 = 0
    · rw [decide_eq_true c0]
      refine ⟨T, B, _, _, rfl, hB, Nat.lt_of_lt_of_le hT (p2 (by omega)), Nat.lt_of_lt_of_le hB2 (p2 (by omega)), ?_⟩
      rw [hsn, c0]
      show _ = _ + ((0 : Int) : Rat) * _
      rw [Rat.intCast_zero, Rat.zero_mul, Rat.add_zero]
    · rw [decide_eq_false c0]
      obtain ⟨v, hv2⟩ : ∃ v, q.2 = some v := Option.ne_none_iff_exists'.mp (hnz q (List.mem_of_getElem? hq) c0)
      have sv := he q.2 hm.2 v hv2
      have sc := hc q.1 hm.1
      have s0 : (q.1 * v.num).natAbs < 2 ^ (r + p) := mul2i sc sv.1
      have s1 : ((v.den : Int)).natAbs < 2 ^ p := sv.2
      rw [hv2]
      refine ⟨_, rfl, cmulw (Nat.lt_of_lt_of_le hT (p2 (by omega))) (Nat.lt_of_lt_of_le s1 (p2 (by omega))), _, rfl, cmulw (Nat.lt_of_lt_of_le sc (p2 (by omega))) (Nat.lt_of_lt_of_le sv.1 (p2 (by omega))), cmulw (Nat.lt_of_lt_of_le s0 (p2 (by omega))) (Nat.lt_of_lt_of_le hB2 (p2 (by omega))), ?_⟩
      refine ⟨_, rfl, cmulw (Nat.lt_of_lt_of_le hB2 (p2 (by omega))) (Nat.lt_of_lt_of_le s1 (p2 (by omega))), ?_⟩
      refine ⟨_, _, _, _, rfl, Int.mul_pos hB (den_pos v), ?_, ?_, ?_⟩
      · have a1 := mul2i hT s1
        have a2 := mul2i s0 hB2
        refine Nat.lt_of_lt_of_le (add2i (m := i * (p + r + 1) + 1 + p + r) (Nat.lt_of_lt_of_le a1 (p2 (by omega))) (Nat.lt_of_lt_of_le a2 (p2 (by omega)))) (p2 (by omega))
      · exact Nat.lt_of_lt_of_le (mul2i hB2 s1) (p2 (by omega))
      · rw [hsn, hv2]
        refine (step_v hB (den_pos v)).trans ?_
        show _ + _ * Rat.divInt v.num v.den = _ + _ * v
        rw [Rat.num_divInt_den]
  · obtain ⟨T, B, x, y, rfl, hB, hT, hB2, hv⟩ := hj
    rw [hz, List.length_map, List.take_length] at hv
    rw [hz, List.length_map] at hB2
    refine ⟨rfl, rfl, T, B, rfl, Nat.lt_of_lt_of_le hB2 (p2 hN), fun e => absurd e (by omega), fun _ => ?_⟩
    rw [hv]
    exact h

theorem dv_weighed (T : Tx W mg) {er : Errs} (c_fraction_of : CalX P w W.K mg base 3 "fraction_of" s_fraction_of ["top", "bottom"] (spXM W er 2 F_fraction_of)) (cdv : Value) (A : Around) (env : List Env) (s : Shared) (H : Hp) (E : XK) (N0 : Addr → Prop) {f : Addr} (hr : Rg 3 (A.deeper (envOfC "weighed" (defScope s_weighed) s.heap.objs.size f cdv))) :
    PSs (cxOf CX0 P w W.K mg base ["coefficients", "point", "top", "bottom", "coefficient", "value"] "weighed" (defScope s_weighed) f cdv A env s H E).nox (defBody s_weighed) (upS ⟨W, Res.none, N0, H⟩ wr_weighed) := by
  have hu : (A.deeper (envOfC "weighed" (defScope s_weighed) s.heap.objs.size f cdv)).units + 65 < cLine := by have := hr.room.un; omega
  have nd := sc_weighed.nd
  exact (dss_cons (ds_set 2 nd (de_int (s := true)))
  (dss_cons (ds_set 3 nd (de_int (s := true)))
  (dss_cons (ds_for PassesOwn.never rfl (di_zipM rfl (by rfl) T.m_zip (da_cons (de_var 0) (da_cons (de_var 1) (da_nil (s := true))))) (dg_tup rfl rfl (dgs_cons (dg_name 4 nd) (dgs_cons (dg_name 5 nd) dgs_nil))) (dss_one (ds_if (dt_cmp (op_neU hu) od_ne (de_var 4) (de_int (s := true)) (nomark _)) (dss_cons (ds_set 2 nd (de_op op_addU (od_add (s := true)) (de_op op_mulU (od_mul (s := true)) (de_var 2) (de_ix rfl (de_var 5) (de_int (s := true)) (fun _ _ => rfl))) (de_op op_mulU (od_mul (s := true)) (de_op op_mulU (od_mul (s := true)) (de_var 4) (de_ix rfl (de_var 5) (de_int (s := true)) (fun _ _ => rfl))) (de_var 3))))
  (dss_one (ds_set 3 nd (de_op op_mulU (od_mul (s := true)) (de_var 3) (de_ix rfl (de_var 5) (de_int (s := true)) (fun _ _ => rfl)))))) dss_nil)))
  (dss_one (ds_ret (de_callXMP c_fraction_of rfl hr kb_fraction_of_2 (by decide) (by rfl) (da_cons (de_var 2) (da_cons (de_var 3) (da_nil (s := true))))))))))
theorem ok_weighed (T : Tx W mg) {er : Errs} (c_fraction_of : CalX P w W.K mg base 3 "fraction_of" s_fraction_of ["top", "bottom"] (spXM W er 2 F_fraction_of)) {f : Addr} {fd : FuncData} (Fn : Fun W.K "weighed" "weighed" s_weighed f fd) : FnG P w W.K mg base CX0 4 f fd ["coefficients", "point"] (spP W 2 F_weighed) :=
  ok_pure Fn sc_weighed (by decide) (fun ds Φ h => len_weighed h) fun cdv A env s H E N0 hr => ⟨wr_weighed, dv_weighed T c_fraction_of cdv A env s H E N0 hr, fun ds Φ h => sem_weighed ds Φ h⟩

/-- between two ends -/
structure InR (lo hi : Option Rat) (q : Rat) : Prop where
  lo : ∀ l, lo = some l → l ≤ q
  hi : ∀ h, hi = some h → q ≤ h
/-- no other fraction between has a lesser top or bottom -/
def LeastR (lo hi : Option Rat) (q : Rat) : Prop := ∀ x : Rat, InR lo hi x → q.num.natAbs ≤ x.num.natAbs ∧ q.den ≤ x.den
def F__simplest_above : FD := fun ds Φ => ∃ (l : Rat) (hi : Option Rat) (n : Nat), ds = [dQ l, dE hi] ∧ 0 < l ∧ (∀ h, hi = some h → l ≤ h) ∧ Sz n l ∧ SzE n hi ∧ n ≤ 4000 ∧ ∀ q : Rat, InR (some l) hi q → Sz n q → LeastR (some l) hi q → Φ (dQ q)
theorem len__simplest_above {ds Φ} (h : F__simplest_above ds Φ) : ds.length = 2 := by obtain ⟨a, b, _, e, _⟩ := h; rw [e]; rfl
-- slots of _simplest_above: 0 low, 1 high, 2 wholes, 3 whole, 4 part, 5 top, 6 bottom
def wk__simplest_above_0 : WS :=
  (wSet 3 (wNeg (wOp fDiv (wNeg (wOp fIx (wVar 0) (wC (.int 0)))) (wOp fIx (wVar 0) (wC (.int 1))))))
def wk__simplest_above_1 : WS :=
  (wSq (wPars [0, 1] (wEd (wTup (wCons (wOp fIx (wVar 1) (wC (.int 1))) (wCons (wOp fSub (wOp fIx (wVar 1) (wC (.int 0))) (wOp fMul (wVar 4) (wOp fIx (wVar 1) (wC (.int 1))))) wNil))) (wEd (wTup (wCons (wOp fIx (wVar 0) (wC (.int 1))) (wCons (wOp fSub (wOp fIx (wVar 0) (wC (.int 0))) (wOp fMul (wVar 4) (wOp fIx (wVar 0) (wC (.int 1))))) wNil))) wEn)))
  wk__simplest_above_0)
def wk__simplest_above_2 : WS :=
  (wSq (wSet 4 (wOp fSub (wVar 3) (wC (.int 1))))
  (wSq (wApp 2 (wVar 4))
  wk__simplest_above_1))
def wk__simplest_above_3 : WS :=
  (wPars [5, 6] (wEd (wOp fAdd (wOp fMul (wVar 4) (wVar 5)) (wVar 6)) (wEd (wVar 5) wEn)))
def wk__simplest_above_4 : WS :=
  (wSq (wFor (wRvI (wVar 2)) (gN 4)
  wk__simplest_above_3)
  (wRet (wTup (wCons (wVar 5) (wCons (wVar 6) wNil)))))
def wk__simplest_above_5 : WS :=
  (wSq (wSet 5 (wVar 3))
  (wSq (wSet 6 (wC (.int 1)))
  wk__simplest_above_4))
def wk__simplest_above_6 : WS :=
  (wSq (wWhile (wAnd (wTest (wOp fIsNot (wVar 1) (wC .none))) (wTest (wOp fGt (wOp fMul (wVar 3) (wOp fIx (wVar 1) (wC (.int 1)))) (wOp fIx (wVar 1) (wC (.int 0))))))
  wk__simplest_above_2)
  (wFrz 2
  wk__simplest_above_5))
def wk__simplest_above_7 : WS :=
  (wSq (wSet 3 (wNeg (wOp fDiv (wNeg (wOp fIx (wVar 0) (wC (.int 0)))) (wOp fIx (wVar 0) (wC (.int 1))))))
  wk__simplest_above_6)
def ws__simplest_above : WS :=
  (wSq (wFst 2 (wFl wNil))
  wk__simplest_above_7)
def wr__simplest_above : WS :=
  (wSq (wFst 2 (wFl wNil))
  (wSq (wSet 3 (wNeg (wOp fDiv (wNeg (wOp fIx (wVar 0) (wC (.int 0)))) (wOp fIx (wVar 0) (wC (.int 1))))))
  (wSq (wWhile (wAnd (wTest (wOp fIsNot (wVar 1) (wC .none))) (wTest (wOp fGt (wOp fMul (wVar 3) (wOp fIx (wVar 1) (wC (.int 1)))) (wOp fIx (wVar 1) (wC (.int 0))))))
  (wSq (wSet 4 (wOp fSub (wVar 3) (wC (.int 1))))
  (wSq (wApp 2 (wVar 4))
  (wSq (wPars [0, 1] (wEd (wTup (wCons (wOp fIx (wVar 1) (wC (.int 1))) (wCons (wOp fSub (wOp fIx (wVar 1) (wC (.int 0))) (wOp fMul (wVar 4) (wOp fIx (wVar 1) (wC (.int 1))))) wNil))) (wEd (wTup (wCons (wOp fIx (wVar 0) (wC (.int 1))) (wCons (wOp fSub (wOp fIx (wVar 0) (wC (.int 0))) (wOp fMul (wVar 4) (wOp fIx (wVar 0) (wC (.int 1))))) wNil))) wEn)))
  (wSet 3 (wNeg (wOp fDiv (wNeg (wOp fIx (wVar 0) (wC (.int 0)))) (wOp fIx (wVar 0) (wC (.int 1))))))))))
  (wFrz 2
  (wSq (wSet 5 (wVar 3))
  (wSq (wSet 6 (wC (.int 1)))
  (wSq (wFor (wRvI (wVar 2)) (gN 4)
  (wPars [5, 6] (wEd (wOp fAdd (wOp fMul (wVar 4) (wVar 5)) (wVar 6)) (wEd (wVar 5) wEn))))
  (wRet (wTup (wCons (wVar 5) (wCons (wVar 6) wNil)))))))))))

/-- the least integer not below p -/
def ceilF (p : Fr2) : Int := -(Int.fdiv (-p.1) p.2)
theorem ceil_spec {p : Fr2} (h : 0 < p.2) : p.1 ≤ ceilF p * p.2 ∧ (ceilF p - 1) * p.2 < p.1 := by
  unfold ceilF
  rw [Int.fdiv_eq_ediv_of_nonneg _ (Int.le_of_lt h)]
  have a := Int.ediv_mul_le (-p.1) (Int.ne_of_gt h)
  have b := Int.lt_ediv_add_one_mul_self (-p.1) h
  generalize -p.1 / p.2 = z at a b ⊢
  constructor
  · rw [Int.neg_mul]; omega
  · have e : (-z - 1) * p.2 = -((z + 1) * p.2) := by rw [← Int.neg_mul]; congr 1; omega
    omega
/-- both ends of a step: positive, the first not above the second, tops and bottoms below a power -/
structure OkP (n : Nat) (p q : Fr2) : Prop where
  p1 : 0 < p.1
  p2 : 0 < p.2
  q1 : 0 < q.1
  q2 : 0 < q.2
  le : p.1 * q.2 ≤ q.1 * p.2
  sp : p.1.natAbs < 2 ^ n ∧ p.2.natAbs < 2 ^ n
  sq : q.1.natAbs < 2 ^ n ∧ q.2.natAbs < 2 ^ n
/-- a fraction between, in lowest terms, no top and no bottom above those of the ends -/
structure GdP (p q x : Fr2) : Prop where
  x1 : 0 < x.1
  x2 : 0 < x.2
  g : Nat.gcd x.1.natAbs x.2.natAbs = 1
  lo : p.1 * x.2 ≤ x.1 * p.2
  hi : x.1 * q.2 ≤ q.1 * x.2
  tp : x.1 ≤ p.1 ∧ x.2 ≤ p.2
  tq : x.1 ≤ q.1 ∧ x.2 ≤ q.2
  mn : ∀ a b : Int, 0 < b → p.1 * b ≤ a * p.2 → a * q.2 ≤ q.1 * b → x.1 ≤ a ∧ x.2 ≤ b
def stepP (k : Int) (x : Fr2) : Fr2 := (k * x.1 + x.2, x.1)
def inP (k : Int) (q : Fr2) : Fr2 := (q.2, q.1 - k * q.2)
theorem gcd_step (k t b : Int) (h : Nat.gcd t.natAbs b.natAbs = 1) : Nat.gcd (k * t + b).natAbs t.natAbs = 1 := by
  show Int.gcd (k * t + b) t = 1
  have h : Int.gcd t b = 1 := h
  rw [Int.add_comm, Int.gcd_add_mul_right_left, Int.gcd_comm]
  exact h
theorem GdP.up {p q x : Fr2} {k : Int} (h : GdP (inP k q) (inP k p) x) (hk : 0 ≤ k) (hp2 : 0 < p.2) (hp : 0 < p.1 - k * p.2) : GdP p q (stepP k x) := by
  have a1 : q.2 * x.2 ≤ x.1 * (q.1 - k * q.2) := h.lo
  have a2 : x.1 * (p.1 - k * p.2) ≤ p.2 * x.2 := h.hi
  have b1 : x.1 ≤ q.2 := h.tp.1
  have b2 : x.2 ≤ q.1 - k * q.2 := h.tp.2
  have c1 : x.1 ≤ p.2 := h.tq.1
  have c2 : x.2 ≤ p.1 - k * p.2 := h.tq.2
  have k1 : 0 ≤ k * x.1 := Int.mul_nonneg hk (Int.le_of_lt h.x1)
  have d1 : k * x.1 ≤ k * q.2 := Int.mul_le_mul_of_nonneg_left b1 hk
  have d2 : k * x.1 ≤ k * p.2 := Int.mul_le_mul_of_nonneg_left c1 hk
  have x1 := h.x1
  have x2 := h.x2
  refine ⟨?_, h.x1, gcd_step k x.1 x.2 h.g, ?_, ?_, ⟨?_, c1⟩, ⟨?_, b1⟩, fun a b hb e1 e2 => ?_⟩
  · show 0 < k * x.1 + x.2
    omega
  · show p.1 * x.1 ≤ (k * x.1 + x.2) * p.2
    rw [Int.mul_sub] at a2
    rw [Int.add_mul, Int.mul_comm p.1 x.1, Int.mul_comm x.2 p.2]
    have : x.1 * (k * p.2) = k * x.1 * p.2 := by rw [← Int.mul_assoc, Int.mul_comm x.1 k]
    omega
  · show (k * x.1 + x.2) * q.2 ≤ q.1 * x.1
    rw [Int.mul_sub] at a1
    rw [Int.add_mul, Int.mul_comm q.1 x.1, Int.mul_comm x.2 q.2]
    have : x.1 * (k * q.2) = k * x.1 * q.2 := by rw [← Int.mul_assoc, Int.mul_comm x.1 k]
    omega
  · show k * x.1 + x.2 ≤ p.1
    omega
  · show k * x.1 + x.2 ≤ q.1
    omega
  · have f1 : 0 < a - k * b := by
      have g1 : 0 < (p.1 - k * p.2) * b := Int.mul_pos hp hb
      have g2 : (p.1 - k * p.2) * b ≤ (a - k * b) * p.2 := by
        rw [Int.sub_mul, Int.sub_mul]
        have : k * p.2 * b = k * b * p.2 := by rw [Int.mul_assoc, Int.mul_comm p.2, ← Int.mul_assoc]
        omega
      exact Int.lt_of_not_ge fun z => by
        have : (a - k * b) * p.2 ≤ 0 * p.2 := Int.mul_le_mul_of_nonneg_right z (Int.le_of_lt hp2)
        omega
    have f2 : (inP k q).1 * (a - k * b) ≤ b * (inP k q).2 := by
      show q.2 * (a - k * b) ≤ b * (q.1 - k * q.2)
      rw [Int.mul_sub, Int.mul_sub, Int.mul_comm q.2 a, Int.mul_comm b q.1]
      have : q.2 * (k * b) = b * (k * q.2) := by rw [Int.mul_comm q.2, Int.mul_assoc, Int.mul_comm b q.2, ← Int.mul_assoc, Int.mul_comm b]
      omega
    have f3 : b * (inP k p).2 ≤ (inP k p).1 * (a - k * b) := by
      show b * (p.1 - k * p.2) ≤ p.2 * (a - k * b)
      rw [Int.mul_sub, Int.mul_sub, Int.mul_comm p.2 a, Int.mul_comm b p.1]
      have : p.2 * (k * b) = b * (k * p.2) := by rw [Int.mul_comm p.2, Int.mul_assoc, Int.mul_comm b p.2, ← Int.mul_assoc, Int.mul_comm b]
      omega
    obtain ⟨g1, g2⟩ := h.mn b (a - k * b) f1 f2 f3
    have g3 : k * x.1 ≤ k * b := Int.mul_le_mul_of_nonneg_left g1 hk
    exact ⟨by show k * x.1 + x.2 ≤ a; omega, g1⟩
/-- the steps taken from P, Q to p, q; the last one first -/
def Ch (n : Nat) (P Q : Fr2) : List Int → Fr2 → Fr2 → Prop
  | [], p, q => p = P ∧ q = Q
  | k :: r, p, q => ∃ p0 q0 : Fr2, 0 ≤ k ∧ k.natAbs < 2 ^ n ∧ OkP n p0 q0 ∧ p = inP k q0 ∧ q = inP k p0 ∧ Ch n P Q r p0 q0
/-- a step: both ends lie between k and k + 1 -/
theorem OkP.step {n : Nat} {p q : Fr2} (h : OkP n p q) (c : q.1 < ceilF p * q.2) : 0 ≤ ceilF p - 1 ∧ (ceilF p - 1).natAbs < 2 ^ n ∧ OkP n (inP (ceilF p - 1) q) (inP (ceilF p - 1) p) ∧ (inP (ceilF p - 1) q).2 < q.2 ∧ (inP (ceilF p - 1) p).2 < p.2 := by
  obtain ⟨s1, s2⟩ := ceil_spec h.p2
  generalize ceilF p = w at c s1 s2 ⊢
  obtain ⟨k, rfl⟩ : ∃ k, w = k + 1 := ⟨w - 1, by omega⟩
  rw [show k + 1 - 1 = k by omega] at s2 ⊢
  rw [Int.add_mul, Int.one_mul] at c s1
  have p1 := h.p1
  have p2 := h.p2
  have q1 := h.q1
  have q2 := h.q2
  have k0 : 0 ≤ k := by
    rcases Int.lt_or_le k 0 with z | z
    · have : k * p.2 ≤ (-1) * p.2 := Int.mul_le_mul_of_nonneg_right (by omega) (by omega)
      omega
    · exact z
  have kp : 0 ≤ k * p.2 := Int.mul_nonneg k0 (Int.le_of_lt p2)
  have kq : 0 ≤ k * q.2 := Int.mul_nonneg k0 (Int.le_of_lt q2)
  have kk : k ≤ k * p.2 := by
    have : k * 1 ≤ k * p.2 := Int.mul_le_mul_of_nonneg_left (by omega) k0
    omega
  -- q is above k
  have low : k * q.2 < q.1 := by
    have a : k * p.2 * q.2 < p.1 * q.2 := Int.mul_lt_mul_of_pos_right s2 q2
    have b := h.le
    have d : k * q.2 * p.2 < q.1 * p.2 := by
      have e : k * q.2 * p.2 = k * p.2 * q.2 := by rw [Int.mul_assoc, Int.mul_comm q.2, ← Int.mul_assoc]
      omega
    exact Int.lt_of_mul_lt_mul_right d (Int.le_of_lt p2)
  -- p is below k + 1
  have high : p.1 < k * p.2 + p.2 := by
    have a : q.1 * p.2 < (k * q.2 + q.2) * p.2 := Int.mul_lt_mul_of_pos_right c p2
    have b := h.le
    have d : p.1 * q.2 < (k * p.2 + p.2) * q.2 := by
      have e : (k * p.2 + p.2) * q.2 = (k * q.2 + q.2) * p.2 := by
        rw [Int.add_mul, Int.add_mul, Int.mul_assoc, Int.mul_assoc, Int.mul_comm p.2 q.2]
      omega
    exact Int.lt_of_mul_lt_mul_right d (Int.le_of_lt q2)
  have sp := h.sp
  have sq := h.sq
  refine ⟨k0, by omega, ⟨q2, ?_, p2, ?_, ?_, ⟨sq.2, ?_⟩, ⟨sp.2, ?_⟩⟩, ?_, ?_⟩
  · show 0 < q.1 - k * q.2
    omega
  · show 0 < p.1 - k * p.2
    omega
  · show q.2 * (p.1 - k * p.2) ≤ p.2 * (q.1 - k * q.2)
    have b := h.le
    rw [Int.mul_sub, Int.mul_sub, Int.mul_comm q.2 p.1, Int.mul_comm p.2 q.1]
    have e : q.2 * (k * p.2) = p.2 * (k * q.2) := by rw [Int.mul_comm q.2, Int.mul_assoc, Int.mul_comm p.2 q.2, ← Int.mul_assoc, Int.mul_comm p.2]
    omega
  · show (q.1 - k * q.2).natAbs < 2 ^ n
    have : (q.1 - k * q.2).natAbs ≤ q.1.natAbs := by omega
    omega
  · show (p.1 - k * p.2).natAbs < 2 ^ n
    have : (p.1 - k * p.2).natAbs ≤ p.1.natAbs := by omega
    omega
  · show q.1 - k * q.2 < q.2
    omega
  · show p.1 - k * p.2 < p.2
    omega
/-- how the tops and the bottoms shrink -/
structure Shr (n k : Nat) (p q : Fr2) : Prop where
  b : p.2.natAbs < 2 ^ (n - k / 2) ∧ q.2.natAbs < 2 ^ (n - k / 2)
  t : 1 ≤ k → (p.1.natAbs < 2 ^ (n - (k - 1) / 2) ∧ q.1.natAbs < 2 ^ (n - (k - 1) / 2)) ∧ p.2 < p.1 ∧ q.2 < q.1
theorem Shr.few {n k : Nat} {p q : Fr2} (h : Shr n k p q) (hp : 0 < p.2) : k < 2 * n := by
  rcases Nat.lt_or_ge k (2 * n) with z | z
  · exact z
  · have := h.b.1
    rw [show n - k / 2 = 0 by omega] at this
    omega
theorem half_pow {v : Int} {a : Nat} (h : 2 * v.natAbs < 2 ^ a) (ha : 1 ≤ a) : v.natAbs < 2 ^ (a - 1) := by
  obtain ⟨c, rfl⟩ : ∃ c, a = c + 1 := ⟨a - 1, by omega⟩
  rw [Nat.pow_succ] at h
  rw [Nat.add_sub_cancel]
  omega
theorem Shr.next {n k : Nat} {p q : Fr2} (h : Shr n k p q) (ok : OkP n p q) (c : q.1 < ceilF p * q.2) : Shr n (k + 1) (inP (ceilF p - 1) q) (inP (ceilF p - 1) p) := by
  obtain ⟨k0, _, ok2, l1, l2⟩ := ok.step c
  have few := h.few ok.p2
  generalize ceilF p - 1 = w at k0 ok2 l1 l2 ⊢
  have b1 : 0 < q.1 - w * q.2 := ok2.p2
  have b2 : 0 < p.1 - w * p.2 := ok2.q2
  have l1 : q.1 - w * q.2 < q.2 := l1
  have l2 : p.1 - w * p.2 < p.2 := l2
  refine ⟨?_, fun _ => ⟨⟨h.b.2, h.b.1⟩, l1, l2⟩⟩
  show (q.1 - w * q.2).natAbs < 2 ^ (n - (k + 1) / 2) ∧ (p.1 - w * p.2).natAbs < 2 ^ (n - (k + 1) / 2)
  rcases Nat.eq_zero_or_pos k with rfl | kp
  · have hb := h.b
    rw [show n - (0 + 1) / 2 = n - 0 / 2 by omega]
    omega
  · obtain ⟨⟨t1, t2⟩, u1, u2⟩ := h.t kp
    have wp : 1 ≤ w := by
      rcases Int.lt_or_le w 1 with z | z
      · have e : w = 0 := by omega
        rw [e] at l2
        omega
      · exact z
    have m1 : q.2 ≤ w * q.2 := by
      have : 1 * q.2 ≤ w * q.2 := Int.mul_le_mul_of_nonneg_right wp (Int.le_of_lt ok.q2)
      omega
    have m2 : p.2 ≤ w * p.2 := by
      have : 1 * p.2 ≤ w * p.2 := Int.mul_le_mul_of_nonneg_right wp (Int.le_of_lt ok.p2)
      omega
    rw [show n - (k + 1) / 2 = (n - (k - 1) / 2) - 1 by omega]
    exact ⟨half_pow (by omega) (by omega), half_pow (by omega) (by omega)⟩
theorem GdP.first {n : Nat} {p q : Fr2} (ok : OkP n p q) (c : ¬ q.1 < ceilF p * q.2) : GdP p q (ceilF p, 1) := by
  obtain ⟨s1, s2⟩ := ceil_spec ok.p2
  have p1 := ok.p1
  have p2 := ok.p2
  have q2 := ok.q2
  generalize ceilF p = w at c s1 s2 ⊢
  have w0 : 0 < w := by
    rcases Int.lt_or_le 0 w with z | z
    · exact z
    · have : w * p.2 ≤ 0 * p.2 := Int.mul_le_mul_of_nonneg_right z (Int.le_of_lt p2)
      omega
  have w1 : w - 1 ≤ (w - 1) * p.2 := by
    have : (w - 1) * 1 ≤ (w - 1) * p.2 := Int.mul_le_mul_of_nonneg_left (by omega) (by omega)
    omega
  have w2 : w ≤ w * q.2 := by
    have : w * 1 ≤ w * q.2 := Int.mul_le_mul_of_nonneg_left (by omega) (by omega)
    omega
  refine ⟨w0, Int.zero_lt_one, ?_, ?_, ?_, ⟨?_, ?_⟩, ⟨?_, ?_⟩, fun a b hb e1 _ => ⟨?_, by show (1 : Int) ≤ b; omega⟩⟩
  · show Nat.gcd w.natAbs 1 = 1
    exact Nat.gcd_one_right _
  · show p.1 * 1 ≤ w * p.2
    omega
  · show w * q.2 ≤ q.1 * 1
    omega
  · show w ≤ p.1
    omega
  · show (1 : Int) ≤ p.2
    omega
  · show w ≤ q.1
    omega
  · show (1 : Int) ≤ q.2
    omega
  · show w ≤ a
    have g1 : p.1 * 1 ≤ p.1 * b := Int.mul_le_mul_of_nonneg_left (by omega) (Int.le_of_lt p1)
    have g2 : (w - 1) * p.2 < a * p.2 := by omega
    have g3 : w - 1 < a := Int.lt_of_mul_lt_mul_right g2 (Int.le_of_lt p2)
    omega
theorem Rat_le_div {a b : Fr2} (ha : 0 < a.2) (hb : 0 < b.2) : vF a ≤ vF b ↔ a.1 * b.2 ≤ b.1 * a.2 := by
  unfold vF
  rw [Rat.le_iff_sub_nonneg, Rat.divInt_sub_divInt _ _ (by omega) (by omega), Rat.divInt_nonneg_iff_of_pos_right (Int.mul_pos hb ha)]
  omega
theorem Rat_num_pos {q : Rat} (h : 0 < q) : 0 < q.num := by
  have := (Rat.lt_iff 0 q).mp h
  simpa using this
theorem Good_q {x : Fr2} (h1 : 0 < x.2) (hg : Nat.gcd x.1.natAbs x.2.natAbs = 1) : dF x = dQ (vF x) := by
  have e := cF_div (t := x.1) h1
  have g : gg x.1 x.2 = 1 := by unfold gg; rw [hg]; rfl
  rw [g, Int.fdiv_one, Int.fdiv_one] at e
  show dF x = dF (cF (Rat.divInt x.1 x.2))
  rw [e]
theorem q_of {P : Fr2} {hi : Option Rat} {x : Fr2} {l : Rat} {n : Nat} (hP : P = cF l) (h1 : 0 < x.2) (hl : P.1 * x.2 ≤ x.1 * P.2) (hh : ∀ h, hi = some h → x.1 * (h.den : Int) ≤ h.num * x.2) (ht : x.1.natAbs < 2 ^ n) (hb : x.2.natAbs < 2 ^ n) :
    InR (some l) hi (vF x) ∧ Sz n (vF x) := by
  refine ⟨⟨fun l' e => ?_, fun h e => ?_⟩, Sz.div h1 ht hb⟩
  · cases e
    rw [← vF_cF l, ← hP]
    refine (Rat_le_div ?_ h1).mpr hl
    rw [hP]; exact den_pos l
  · rw [← vF_cF h]
    exact (Rat_le_div h1 (den_pos h)).mpr (hh h e)
theorem least_mn {l : Rat} {hi : Option Rat} {x : Fr2} (x1 : 0 < x.1) (x2 : 0 < x.2) (hg : Nat.gcd x.1.natAbs x.2.natAbs = 1)
    (mn : ∀ a b : Int, 0 < b → l.num * b ≤ a * (l.den : Int) → (∀ h, hi = some h → a * (h.den : Int) ≤ h.num * b) → x.1 ≤ a ∧ x.2 ≤ b) : LeastR (some l) hi (vF x) := fun y hy => by
  have e := dF_inj (Good_q x2 hg)
  obtain ⟨g1, g2⟩ := mn y.num y.den (den_pos y) ((Rat.le_iff l y).mp (hy.lo l rfl)) fun h e => (Rat.le_iff y h).mp (hy.hi h e)
  have e1 : (vF x).num = x.1 := by
    conv => rhs; rw [e]
    rfl
  have e2 : ((vF x).den : Int) = x.2 := by
    conv => rhs; rw [e]
    rfl
  rw [e1]
  exact ⟨by omega, by omega⟩
theorem sem__simplest_above (ds : List PyData) (Φ : PyData → Prop) (h : F__simplest_above ds Φ) : ws__simplest_above (retX Φ) (ev0 7 ds) := by
  obtain ⟨l, hi, n, rfl, l0, lh, sl, sh, hn, h⟩ := h
  have lp : 0 < l.num := Rat_num_pos l0
  have big : ∀ {v : Int}, v.natAbs < 2 ^ n → v.natAbs < 2 ^ 9000 := fun z => Nat.lt_of_lt_of_le z (p2 (by omega))
  have divs : ∀ {p : Fr2}, 0 < p.2 → p.2.natAbs < 2 ^ n → (p.2 ≠ 0 ∧ p.2.natAbs < 1073741824) ∨ (0 < p.2 ∧ p.2.natAbs.log2 < 9000) := fun {p} p0 ps => .inr ⟨p0, (Nat.log2_lt (by omega)).mpr (big ps)⟩
  refine ⟨Nat.zero_le _, ?_⟩
  dsimp only
  refine sq ⟨_, rfl, _, rfl, divs (p := cF l) (den_pos l) sl.2, ?_⟩
  dsimp only
  cases hi with
  | none =>
    refine sq ⟨fun _ ρ => ρ = [.d (dF (cF l)), .d .none, .o [], .d (.int (ceilF (cF l))), .u, .u, .u], ⟨0, rfl⟩, fun m ρ2 hj => ?_⟩
    subst hj
    have lp2 := den_pos l
    obtain ⟨s1, s2⟩ := ceil_spec (p := cF l) lp2
    have s1 : l.num ≤ ceilF (cF l) * (l.den : Int) := s1
    have s2 : (ceilF (cF l) - 1) * (l.den : Int) < l.num := s2
    have c0 : 0 < ceilF (cF l) := by
      rcases Int.lt_or_le 0 (ceilF (cF l)) with z | z
      · exact z
      · have : ceilF (cF l) * (l.den : Int) ≤ 0 * (l.den : Int) := Int.mul_le_mul_of_nonneg_right z (Int.le_of_lt lp2)
        omega
    have c1 : ceilF (cF l) ≤ l.num := by
      have : (ceilF (cF l) - 1) * 1 ≤ (ceilF (cF l) - 1) * (l.den : Int) := Int.mul_le_mul_of_nonneg_left (by omega) (by omega)
      omega
    obtain ⟨r1, r2⟩ := q_of (l := l) (hi := none) (x := (ceilF (cF l), 1)) (n := n) rfl Int.zero_lt_one (by show l.num * 1 ≤ ceilF (cF l) * (l.den : Int); omega) (fun h e => nomatch e) (by have := sl.1; show (ceilF (cF l)).natAbs < 2 ^ n; omega) (by
      show (1 : Int).natAbs < 2 ^ n
      have := sl.2
      have := l.den_pos
      show 1 < 2 ^ n
      omega)
    have fin : (wSq (wSet 5 (wVar 3)) (wSq (wSet 6 (wC (.int 1))) (wSq (wFor (wRvI (wVar 2)) (gN 4) (wPars [5, 6] (wEd (wOp fAdd (wOp fMul (wVar 4) (wVar 5)) (wVar 6)) (wEd (wVar 5) wEn)))) (wRet (wTup (wCons (wVar 5) (wCons (wVar 6) wNil))))))) (retX Φ)
        [.d (dF (cF l)), .d .none, .d (.list []), .d (.int (ceilF (cF l))), .u, .u, .u] := by
      refine sq_var rfl (sq_set (sq (for_all (ds := []) (fun _ ρ => ρ = [.d (dF (cF l)), .d .none, .d (.list []), .d (.int (ceilF (cF l))), .u, .d (.int (ceilF (cF l))), .d (.int 1)]) (fun Ψ h => h) rfl (fun i d ρ2 hd _ => by cases hd) fun ρ2 e => ?_)))
      subst e
      refine ⟨(by decide : 2 ≤ 100000), ?_⟩
      have := h _ r1 r2 (least_mn c0 Int.zero_lt_one (Nat.gcd_one_right _) fun a b hb e1 _ => by
        have g1 : l.num * 1 ≤ l.num * b := Int.mul_le_mul_of_nonneg_left (by omega) (Int.le_of_lt lp)
        have g2 : (ceilF (cF l) - 1) * (l.den : Int) < a * (l.den : Int) := by omega
        have g3 : ceilF (cF l) - 1 < a := Int.lt_of_mul_lt_mul_right g2 (Int.le_of_lt lp2)
        exact ⟨by show ceilF (cF l) ≤ a; omega, by show (1 : Int) ≤ b; omega⟩)
      rw [← Good_q (x := (ceilF (cF l), 1)) Int.zero_lt_one (Nat.gcd_one_right _)] at this
      exact this
    exact fin
  | some r =>
    have lr := lh r rfl
    have sr := sh r rfl
    have r0 : 0 < r := by grind
    have rp := Rat_num_pos r0
    have ok : OkP n (cF l) (cF r) := ⟨lp, den_pos l, rp, den_pos r, (Rat.le_iff l r).mp lr, ⟨sl.1, sl.2⟩, ⟨sr.1, sr.2⟩⟩
    refine sq ⟨fun m ρ => ∃ (rs : List Int) (p q : Fr2) (x4 : Ent), ρ = [.d (dF p), .d (dF q), .o (rs.reverse.map .int), .d (.int (ceilF p)), x4, .u, .u] ∧ OkP n p q ∧ Shr n rs.length p q ∧ Ch n (cF l) (cF r) rs p q ∧ m = 2 * n - rs.length,
      ⟨2 * n, [], cF l, cF r, .u, rfl, ok, ⟨⟨sl.2, sr.2⟩, fun z => by simp at z⟩, ⟨rfl, rfl⟩, rfl⟩, fun m ρ2 hj => ?_⟩
    obtain ⟨rs, p, q, x4, rfl, okp, hsh, hch, hm⟩ := hj
    have few := hsh.few okp.p2
    have szp := okp.sp
    have szq := okp.sq
    have szc : (ceilF p).natAbs < 2 ^ 9000 := by
      obtain ⟨s1, s2⟩ := ceil_spec okp.p2
      have p1 := okp.p1
      have p2' := okp.p2
      generalize ceilF p = w at s1 s2 ⊢
      have w0 : 0 < w := by
        rcases Int.lt_or_le 0 w with z | z
        · exact z
        · have : w * p.2 ≤ 0 * p.2 := Int.mul_le_mul_of_nonneg_right z (Int.le_of_lt p2')
          omega
      have : (w - 1) * 1 ≤ (w - 1) * p.2 := Int.mul_le_mul_of_nonneg_left (by omega) (by omega)
      exact big (by omega)
    refine ⟨_, rfl, cmulw szc (big szq.2), _, rfl, ?_⟩
    show (if decide (q.1 < ceilF p * q.2) = true then _ else _)
    by_cases c : q.1 < ceilF p * q.2
    · rw [decide_eq_true c, if_pos rfl]
      obtain ⟨k0, ks, ok2, l1, l2⟩ := okp.step c
      have sh2 := hsh.next okp c
      have kb := big ks
      refine sq ?_
      dsimp only
      refine ⟨by rw [List.length_map, List.length_reverse]; omega, ?_⟩
      dsimp only
      refine ⟨_, rfl, _, rfl, _, rfl, cmulw kb (big szq.2), (by decide : 2 ≤ 100000), _, rfl, _, rfl, _, rfl, cmulw kb (big szp.2), (by decide : 2 ≤ 100000), rfl, ⟨(by decide : 2 ≤ 100000), fun i hi => ?_⟩, ?_⟩
      · have : i = 0 ∨ i = 1 := by simpa using hi
        show i < 7
        omega
      refine ⟨_, rfl, _, rfl, divs (p := inP (ceilF p - 1) q) ok2.p2 ok2.sp.2, ?_⟩
      refine ⟨2 * n - (rs.length + 1), by omega, (ceilF p - 1) :: rs, inP (ceilF p - 1) q, inP (ceilF p - 1) p, .d (.int (ceilF p - 1)), ?_, ok2, sh2, ⟨p, q, k0, ks, okp, rfl, rfl, hch⟩, rfl⟩
      rw [List.reverse_cons, List.map_append]
      rfl
    · rw [decide_eq_false c, if_neg Bool.false_ne_true]
      have g0 := GdP.first okp c
      have fin : (wSq (wSet 5 (wVar 3)) (wSq (wSet 6 (wC (.int 1))) (wSq (wFor (wRvI (wVar 2)) (gN 4) (wPars [5, 6] (wEd (wOp fAdd (wOp fMul (wVar 4) (wVar 5)) (wVar 6)) (wEd (wVar 5) wEn)))) (wRet (wTup (wCons (wVar 5) (wCons (wVar 6) wNil))))))) (retX Φ)
          [.d (dF p), .d (dF q), .d (.list (rs.reverse.map .int)), .d (.int (ceilF p)), x4, .u, .u] := by
        refine sq_var rfl (sq_set (sq (for_all (ds := rs.map .int) (fun i ρ => ∃ (x : Fr2) (p' q' : Fr2) (x4 : Ent), ρ = [.d (dF p), .d (dF q), .d (.list (rs.reverse.map .int)), .d (.int (ceilF p)), x4, .d (.int x.1), .d (.int x.2)] ∧ OkP n p' q' ∧ Ch n (cF l) (cF r) (rs.drop i) p' q' ∧ GdP p' q' x)
          (fun Ψ h => ?_) ⟨(ceilF p, 1), p, q, x4, rfl, okp, hch, g0⟩ (fun i d ρ2 hd hj => ?_) fun ρ2 hj => ?_)))
        · show Ψ (rs.reverse.map PyData.int).reverse
          rw [← List.map_reverse, List.reverse_reverse]
          exact h
        · obtain ⟨x, p', q', x4', rfl, ok', ch', gd⟩ := hj
          obtain ⟨k, hk, rfl⟩ := map_at hd
          have dr : rs.drop i = k :: rs.drop (i + 1) := by
            obtain ⟨hi, e⟩ := List.getElem?_eq_some_iff.mp hk
            rw [List.drop_eq_getElem_cons hi, e]
          rw [dr] at ch'
          obtain ⟨p0, q0, k0, ks, ok0, rfl, rfl, ch0⟩ := ch'
          have xs : x.1.natAbs < 2 ^ n := by
            have a1 := gd.tp.1
            have a2 := ok'.sp.1
            have a3 := gd.x1
            omega
          refine ⟨(by decide : 4 < 7), cmulw (big ks) (big xs), rfl, ⟨(by decide : 2 ≤ 100000), fun i hi => ?_⟩, ?_⟩
          · have : i = 5 ∨ i = 6 := by simpa using hi
            show i < 7
            omega
          exact ⟨stepP k x, p0, q0, .d (.int k), rfl, ok0, ch0, gd.up k0 ok0.p2 ok'.q2⟩
        · obtain ⟨x, p', q', x4', rfl, ok', ch', gd⟩ := hj
          rw [List.length_map, List.drop_length] at ch'
          obtain ⟨rfl, rfl⟩ := ch'
          have xt := gd.tp
          have x1 := gd.x1
          have x2 := gd.x2
          have a1 := sl.1
          have a2 := sl.2
          have b1 : x.1 ≤ l.num := xt.1
          have b2 : x.2 ≤ (l.den : Int) := xt.2
          obtain ⟨r1, r2⟩ := q_of (l := l) (hi := some r) (x := x) (n := n) rfl gd.x2 gd.lo (fun h e => by cases e; exact gd.hi) (by omega) (by omega)
          refine ⟨(by decide : 2 ≤ 100000), ?_⟩
          have := h _ r1 r2 (least_mn x1 gd.x2 gd.g fun a b hb e1 e2 => gd.mn a b hb e1 (e2 r rfl))
          rw [← Good_q gd.x2 gd.g] at this
          exact this
      exact fin

theorem dv__simplest_above (T : Tx W mg) (cdv : Value) (A : Around) (env : List Env) (s : Shared) (H : Hp) (E : XK) (N0 : Addr → Prop) {f : Addr} (hr : Rg 0 (A.deeper (envOfC "_simplest_above" (defScope s__simplest_above) s.heap.objs.size f cdv))) :
    PSs (cxOf CX0 P w W.K mg base ["low", "high", "wholes", "whole", "part", "top", "bottom"] "_simplest_above" (defScope s__simplest_above) f cdv A env s H E).nox (defBody s__simplest_above) (upS ⟨W, Res.none, N0, H⟩ wr__simplest_above) := by
  have hu : (A.deeper (envOfC "_simplest_above" (defScope s__simplest_above) s.heap.objs.size f cdv)).units + 65 < cLine := by have := hr.room.un; omega
  have nd := sc__simplest_above.nd
  exact (dss_cons (ds_fst 2 nd (df_lst (da_nil (s := true))))
  (dss_cons (ds_set 3 nd (de_neg (de_op op_divU (od_div (s := true)) (de_neg (de_ix rfl (de_var 0) (de_int (s := true)) (fun _ _ => rfl))) (de_ix rfl (de_var 0) (de_int (s := true)) (fun _ _ => rfl)))))
  (dss_cons (ds_while PassesOwn.never (dt_pw (dw_and (dt_cmp op_isnotU od_isnot (de_var 1) (de_non (s := true)) (nomark _)) (dw_and1 (dt_cmp op_gt od_gt (de_op op_mulU (od_mul (s := true)) (de_var 3) (de_ix rfl (de_var 1) (de_int (s := true)) (fun _ _ => rfl))) (de_ix rfl (de_var 1) (de_int (s := true)) (fun _ _ => rfl)) (nomark _))))) (dss_cons (ds_set 4 nd (de_op op_sub (od_sub (s := true)) (de_var 3) (de_int (s := true))))
  (dss_cons (ds_app 2 (de_var 4))
  (dss_cons (ds_par2 0 1 rfl nd (ea_d (de_tup (da_cons (de_ix rfl (de_var 1) (de_int (s := true)) (fun _ _ => rfl)) (da_cons (de_op op_sub (od_sub (s := true)) (de_ix rfl (de_var 1) (de_int (s := true)) (fun _ _ => rfl)) (de_op op_mulU (od_mul (s := true)) (de_var 4) (de_ix rfl (de_var 1) (de_int (s := true)) (fun _ _ => rfl)))) (da_nil (s := true))))) (ea_d (de_tup (da_cons (de_ix rfl (de_var 0) (de_int (s := true)) (fun _ _ => rfl)) (da_cons (de_op op_sub (od_sub (s := true)) (de_ix rfl (de_var 0) (de_int (s := true)) (fun _ _ => rfl)) (de_op op_mulU (od_mul (s := true)) (de_var 4) (de_ix rfl (de_var 0) (de_int (s := true)) (fun _ _ => rfl)))) (da_nil (s := true))))) ea_nil)))
  (dss_one (ds_set 3 nd (de_neg (de_op op_divU (od_div (s := true)) (de_neg (de_ix rfl (de_var 0) (de_int (s := true)) (fun _ _ => rfl))) (de_ix rfl (de_var 0) (de_int (s := true)) (fun _ _ => rfl))))))))))
  (dss_frz 2 (dss_cons (ds_set 5 nd (de_var 3))
  (dss_cons (ds_set 6 nd (de_int (s := true)))
  (dss_cons (ds_for PassesOwn.never rfl (di_reversed rfl (by rfl) T.m_reversed (de_var 2)) (dg_name 4 nd) (dss_one (ds_par2 5 6 rfl nd (ea_d (de_op op_addU (od_add (s := true)) (de_op op_mulU (od_mul (s := true)) (de_var 4) (de_var 5)) (de_var 6)) (ea_d (de_var 5) ea_nil)))))
  (dss_one (ds_ret (de_tup (da_cons (de_var 5) (da_cons (de_var 6) (da_nil (s := true))))))))))))))
theorem ok__simplest_above (T : Tx W mg) {f : Addr} {fd : FuncData} (Fn : Fun W.K "_simplest_above" "_simplest_above" s__simplest_above f fd) : FnG P w W.K mg base CX0 1 f fd ["low", "high"] (spP W 2 F__simplest_above) :=
  ok_pure Fn sc__simplest_above (by decide) (fun ds Φ h => len__simplest_above h) fun cdv A env s H E N0 hr => ⟨wr__simplest_above, dv__simplest_above T cdv A env s H E N0 hr, fun ds Φ h => sem__simplest_above ds Φ h⟩

def F_simplest : FXM := fun ds Φ Ψ => ∃ (lo hi : Option Rat) (n : Nat), ds = [dE lo, dE hi] ∧ SzE n lo ∧ SzE n hi ∧ 1 ≤ n ∧ n ≤ 4000 ∧ ((∃ l h, lo = some l ∧ hi = some h ∧ h < l) → Ψ "Refused" (.str "none")) ∧
  ((∀ l h, lo = some l → hi = some h → l ≤ h) → ∀ q : Rat, InR lo hi q → Sz n q → LeastR lo hi q → Φ (dQ q))
theorem len_simplest {ds Φ Ψ} (h : F_simplest ds Φ Ψ) : ds.length = 2 := by obtain ⟨a, b, _, e, _⟩ := h; rw [e]; rfl
-- slots of simplest: 0 low, 1 high
def ws_simplest (Ψ : Str → PyData → Prop) : WS :=
  (wSq (wIf (wAnd (wTest (wOp fIsNot (wVar 0) (wC .none))) (wAnd (wTest (wOp fIsNot (wVar 1) (wC .none))) (wTest (wG F_less 2 0 [0, 1] (wCons (wVar 1) (wCons (wVar 0) wNil)) wNil))))
  (wRaiseM "Refused" Ψ (wC (.str "none")))
  wNx)
  (wSq (wIf (wAnd (wTest (wOp fIsNot (wVar 0) (wC .none))) (wTest (wOp fGt (wOp fIx (wVar 0) (wC (.int 0))) (wC (.int 0)))))
  (wRet (wG F__simplest_above 2 0 [0, 1] (wCons (wVar 0) (wCons (wVar 1) wNil)) wNil))
  wNx)
  (wSq (wIf (wAnd (wTest (wOp fIsNot (wVar 1) (wC .none))) (wTest (wOp fLt (wOp fIx (wVar 1) (wC (.int 0))) (wC (.int 0)))))
  (wRet (wG F_negative 1 0 [0] (wCons (wG F__simplest_above 2 0 [0, 1] (wCons (wG F_negative 1 0 [0] (wCons (wVar 1) wNil) wNil) (wCons (wG F_negative 1 0 [0] (wCons (wVar 0) wNil) wNil) wNil)) wNil) wNil) wNil))
  wNx)
  (wRet (wTup (wCons (wC (.int 0)) (wCons (wC (.int 1)) wNil)))))))

theorem num_le {q : Rat} (h : ¬ 0 < q.num) : q ≤ 0 := by
  rcases (Rat.le_total : q ≤ 0 ∨ 0 ≤ q) with z | z
  · exact z
  · have := Rat.num_nonneg.mpr z
    have e : q.num = 0 := by omega
    rw [Rat.num_eq_zero.mp e]
    exact Rat.le_refl
theorem num_ge {q : Rat} (h : ¬ q.num < 0) : 0 ≤ q := Rat.num_nonneg.mp (by omega)
theorem num_lt0 {q : Rat} (h : q.num < 0) : q < 0 := by
  rcases (Rat.le_total : 0 ≤ q ∨ q ≤ 0) with z | z
  · have := Rat.num_nonneg.mpr z
    omega
  · refine Rat.lt_of_le_of_ne z fun e => ?_
    rw [e] at h
    exact absurd h (by decide)
theorem least_neg {lo hi : Option Rat} {q : Rat} (h : LeastR (negE hi) (negE lo) q) : LeastR lo hi (-q) := fun x hx => by
  have := h (-x) ⟨fun l e => ?_, fun l e => ?_⟩
  · show (-q.num).natAbs ≤ x.num.natAbs ∧ q.den ≤ x.den
    have h1 : q.num.natAbs ≤ (-x.num).natAbs := this.1
    have h2 : q.den ≤ x.den := this.2
    rw [Int.natAbs_neg] at h1 ⊢
    exact ⟨h1, h2⟩
  · cases hi with
    | none => cases e
    | some r =>
      cases e
      have := hx.hi r rfl
      grind
  · cases lo with
    | none => cases e
    | some r =>
      cases e
      have := hx.lo r rfl
      grind
theorem least_zero {lo hi : Option Rat} : LeastR lo hi 0 := fun x _ => ⟨Nat.zero_le _, x.den_pos⟩
theorem simplest_ok {lo hi : Option Rat} {n : Nat} {Φ : PyData → Prop} (ok : ∀ l h, lo = some l → hi = some h → l ≤ h) (sl : SzE n lo) (sh : SzE n hi) (n1 : 1 ≤ n) (hn : n ≤ 4000) (h : ∀ q : Rat, InR lo hi q → Sz n q → LeastR lo hi q → Φ (dQ q)) (Ψ : Str → PyData → Prop) :
    ws_simplest Ψ (retX Φ) [.d (dE lo), .d (dE hi)] := by
  have up : ∀ {q : Rat}, Sz n q → Sz 9000 q := fun z => z.mono (by omega)
  have zero : InR lo hi 0 → Φ (dQ 0) := fun z => h 0 z (Sz.zero (by omega)) least_zero
  -- the last two ways
  have last : (∀ l, lo = some l → ¬ 0 < l.num) → (wSq (wIf (wAnd (wTest (wOp fIsNot (wVar 1) (wC .none))) (wTest (wOp fLt (wOp fIx (wVar 1) (wC (.int 0))) (wC (.int 0)))))
      (wRet (wG F_negative 1 0 [0] (wCons (wG F__simplest_above 2 0 [0, 1] (wCons (wG F_negative 1 0 [0] (wCons (wVar 1) wNil) wNil) (wCons (wG F_negative 1 0 [0] (wCons (wVar 0) wNil) wNil) wNil)) wNil) wNil) wNil)) wNx)
      (wRet (wTup (wCons (wC (.int 0)) (wCons (wC (.int 1)) wNil))))) (retX Φ) [.d (dE lo), .d (dE hi)] := fun hl => by
    have loz : ∀ l, lo = some l → l ≤ 0 := fun l e => num_le (hl l e)
    cases hi with
    | none => exact ⟨(by decide : 2 ≤ 100000), zero ⟨loz, fun _ e => nomatch e⟩⟩
    | some r =>
      refine ⟨_, rfl, ?_⟩
      show (if decide (r.num < 0) = true then _ else _)
      by_cases c : r.num < 0
      · rw [decide_eq_true c, if_pos rfl]
        have rn := num_lt0 c
        refine ⟨rfl, rfl, some r, rfl, rfl, rfl, lo, rfl, rfl, rfl, -r, negE lo, n, rfl, ?_, fun l' e => ?_, (sh r rfl).neg, fun q e => ?_, hn, fun q hq sq lq => ⟨rfl, rfl, some q, rfl, ?_⟩⟩
        · grind
        · cases lo with
          | none => cases e
          | some l =>
            cases e
            have := ok l r rfl rfl
            grind
        · cases lo with
          | none => cases e
          | some l => cases e; exact (sl l rfl).neg
        · refine h (-q) ⟨fun l e => ?_, fun r' e => ?_⟩ sq.neg (least_neg lq)
          · have := hq.hi (-l) (by rw [e]; rfl)
            grind
          · cases e
            have := hq.lo (-r) rfl
            grind
      · rw [decide_eq_false c, if_neg Bool.false_ne_true]
        exact ⟨(by decide : 2 ≤ 100000), zero ⟨loz, fun r' e => by cases e; exact num_ge c⟩⟩
  have mid : (wSq (wIf (wAnd (wTest (wOp fIsNot (wVar 0) (wC .none))) (wTest (wOp fGt (wOp fIx (wVar 0) (wC (.int 0))) (wC (.int 0)))))
      (wRet (wG F__simplest_above 2 0 [0, 1] (wCons (wVar 0) (wCons (wVar 1) wNil)) wNil)) wNx)
      (wSq (wIf (wAnd (wTest (wOp fIsNot (wVar 1) (wC .none))) (wTest (wOp fLt (wOp fIx (wVar 1) (wC (.int 0))) (wC (.int 0)))))
      (wRet (wG F_negative 1 0 [0] (wCons (wG F__simplest_above 2 0 [0, 1] (wCons (wG F_negative 1 0 [0] (wCons (wVar 1) wNil) wNil) (wCons (wG F_negative 1 0 [0] (wCons (wVar 0) wNil) wNil) wNil)) wNil) wNil) wNil)) wNx)
      (wRet (wTup (wCons (wC (.int 0)) (wCons (wC (.int 1)) wNil)))))) (retX Φ) [.d (dE lo), .d (dE hi)] := by
    cases lo with
    | none => exact last fun _ e => nomatch e
    | some l =>
      refine ⟨_, rfl, ?_⟩
      show (if decide (0 < l.num) = true then _ else _)
      by_cases c : 0 < l.num
      · rw [decide_eq_true c, if_pos rfl]
        refine ⟨rfl, rfl, l, hi, n, rfl, ?_, fun r e => ok l r rfl e, sl l rfl, sh, hn, h⟩
        rcases (Rat.le_total : l ≤ 0 ∨ 0 ≤ l) with z | z
        · rcases Rat.le_iff_lt_or_eq.mp z with y | y
          · have := num_lt0 (q := l)
            rcases Int.lt_or_le l.num 0 with x | x
            · omega
            · exact absurd (Rat.num_nonneg.mp x) (Rat.not_le.mpr y)
          · rw [y] at c; exact absurd c (by decide)
        · refine Rat.lt_of_le_of_ne z fun e => ?_
          rw [← e] at c
          exact absurd c (by decide)
      · rw [decide_eq_false c, if_neg Bool.false_ne_true]
        exact last fun l' e => by cases e; exact c
  cases lo with
  | none => exact mid
  | some l =>
    cases hi with
    | none => exact mid
    | some r =>
      refine ⟨rfl, rfl, r, l, rfl, up (sh r rfl), up (sl l rfl), ?_⟩
      have := ok l r rfl rfl
      rw [decide_eq_false (Rat.not_lt.mpr this)]
      exact mid
theorem sem_simplest (ds : List PyData) (Φ : PyData → Prop) (Ψ : Str → PyData → Prop) (h : F_simplest ds Φ Ψ) : ws_simplest Ψ (retX Φ) (ev0 2 ds) := by
  obtain ⟨lo, hi, n, rfl, sl, sh, n1, hn, h0, h⟩ := h
  by_cases ok : ∀ l h, lo = some l → hi = some h → l ≤ h
  · exact simplest_ok ok sl sh n1 hn (h ok) Ψ
  · have ⟨l, r, e1, e2, c⟩ : ∃ l r, lo = some l ∧ hi = some r ∧ r < l := by
      by_cases z : ∃ l r, lo = some l ∧ hi = some r ∧ r < l
      · exact z
      · exact absurd (fun l r e1 e2 => Rat.not_lt.mp fun y => z ⟨l, r, e1, e2, y⟩) ok
    subst e1 e2
    refine ⟨rfl, rfl, r, l, rfl, (sh r rfl).mono (by omega), (sl l rfl).mono (by omega), ?_⟩
    rw [decide_eq_true c]
    exact h0 ⟨l, r, rfl, rfl, c⟩

theorem dv_simplest (T : Tx W mg) {er : Errs} (c__simplest_above : Cal P w W.K mg base 1 "_simplest_above" s__simplest_above ["low", "high"] (spP W 2 F__simplest_above)) (c_less : Cal P w W.K mg base 1 "less" s_less ["one", "other"] (spP W 2 F_less)) (c_negative : Cal P w W.K mg base 1 "negative" s_negative ["value"] (spP W 1 F_negative)) {C_Refused : Addr} (e_Refused : CalE P w W.K mg base "Refused" "word" C_Refused) (x_Refused : er "Refused" = some (C_Refused, ("word" : Str))) (cdv : Value) (A : Around) (env : List Env) (s : Shared) (H : Hp) (E : XK) (N0 : Addr → Prop) (Ψ : Str → PyData → Prop) {f : Addr} (hr : Rg 2 (A.deeper (envOfC "simplest" (defScope s_simplest) s.heap.objs.size f cdv))) (hE : ErrTo W N0 H er E Ψ) :
    PSs (cxOf (L2.CX P w) P w W.K mg base ["low", "high"] "simplest" (defScope s_simplest) f cdv A env s H E) (defBody s_simplest) (upS ⟨W, Res.none, N0, H⟩ (ws_simplest Ψ)) := by
  have hu : (A.deeper (envOfC "simplest" (defScope s_simplest) s.heap.objs.size f cdv)).units + 65 < cLine := by have := hr.room.un; omega
  have nd := sc_simplest.nd
  exact (dss_cons (ds_if (dt_pw (dw_and (dt_cmp op_isnotU od_isnot (de_var 0) (de_non (s := true)) (nomark _)) (dw_and (dt_cmp op_isnotU od_isnot (de_var 1) (de_non (s := true)) (nomark _)) (dw_and1 (dt_val (de_callP c_less rfl hr kb_less_2 (by decide) (by rfl) (da_cons (de_var 1) (da_cons (de_var 0) (da_nil (s := true)))))))))) (dss_one (ds_raiseM rfl (L2.takes_of rfl rfl rfl rfl) e_Refused x_Refused hr (by decide) (by rfl) (de_str (s := true)) hE (fun _ z => z))) dss_nil)
  (dss_cons (ds_if (dt_pw (dw_and (dt_cmp op_isnotU od_isnot (de_var 0) (de_non (s := true)) (nomark _)) (dw_and1 (dt_cmp op_gt od_gt (de_ix rfl (de_var 0) (de_int (s := true)) (fun _ _ => rfl)) (de_int (s := true)) (nomark _))))) (dss_one (ds_ret (de_callP c__simplest_above rfl hr kb__simplest_above_2 (by decide) (by rfl) (da_cons (de_var 0) (da_cons (de_var 1) (da_nil (s := true))))))) dss_nil)
  (dss_cons (ds_if (dt_pw (dw_and (dt_cmp op_isnotU od_isnot (de_var 1) (de_non (s := true)) (nomark _)) (dw_and1 (dt_cmp op_ltU od_lt (de_ix rfl (de_var 1) (de_int (s := true)) (fun _ _ => rfl)) (de_int (s := true)) (nomark _))))) (dss_one (ds_ret (de_callP c_negative rfl hr kb_negative_1 (by decide) (by rfl) (da_cons (de_callP c__simplest_above rfl hr kb__simplest_above_2 (by decide) (by rfl) (da_cons (de_callP c_negative rfl hr kb_negative_1 (by decide) (by rfl) (da_cons (de_var 1) (da_nil (s := true)))) (da_cons (de_callP c_negative rfl hr kb_negative_1 (by decide) (by rfl) (da_cons (de_var 0) (da_nil (s := true)))) (da_nil (s := true))))) (da_nil (s := true)))))) dss_nil)
  (dss_one (ds_ret (de_tup (da_cons (de_int (s := true)) (da_cons (de_int (s := true)) (da_nil (s := true))))))))))
theorem ok_simplest (T : Tx W mg) {er : Errs} (c__simplest_above : Cal P w W.K mg base 1 "_simplest_above" s__simplest_above ["low", "high"] (spP W 2 F__simplest_above)) (c_less : Cal P w W.K mg base 1 "less" s_less ["one", "other"] (spP W 2 F_less)) (c_negative : Cal P w W.K mg base 1 "negative" s_negative ["value"] (spP W 1 F_negative)) {C_Refused : Addr} (e_Refused : CalE P w W.K mg base "Refused" "word" C_Refused) (x_Refused : er "Refused" = some (C_Refused, ("word" : Str))) {f : Addr} {fd : FuncData} (Fn : Fun W.K "simplest" "simplest" s_simplest f fd) : FnG P w W.K mg base (L2.CX P w) 3 f fd ["low", "high"] (spXM W er 2 F_simplest) :=
  ok_raisesM Fn sc_simplest (by decide) (fun ds Φ Ψ h => len_simplest h) fun cdv A env s H E N0 Ψ hr hE => ⟨ws_simplest Ψ, dv_simplest T c__simplest_above c_less c_negative e_Refused x_Refused cdv A env s H E N0 Ψ hr hE, fun ds Φ h => sem_simplest ds Φ Ψ h⟩

def F__law_box : FB := fun ns ds Φ => ∃ k : Int, ds = [.int k] ∧ 0 ≤ k ∧ k ≤ 100 ∧ ns.length ≤ 63 ∧ ∀ d, BoxOk d → Φ d
theorem len__law_box {ns ds Φ} (h : F__law_box ns ds Φ) : ds.length + 1 = 2 := by obtain ⟨a, e, _⟩ := h; rw [e]; rfl
-- slots of _law_box: 0 _law_script, 1 _law_k, 2 _law_cell, 3 _law_great
def wk__law_box_0 : WS :=
  (wSet 2 (wOp fAdd (wVar 2) (wOp fMul (wOp fMod (wCall fInt (wCons (wCall fAbs (wCons (wSIx 0 (wOp fMod (wCall fInt (wCons (wVar 1) wNil)) (wSLen 0))) wNil)) wNil)) (wC (.int 2147483629))) (wC (.int 60719)))))
def wk__law_box_1 : WS :=
  (wIf (wTest (wOp fGt (wSLen 0) (wC (.int 0))))
  wk__law_box_0
  wNx)
def wk__law_box_2 : WS :=
  (wRet (wLst (wCons (wOp fIx (wLst (wCons (wC (.int 0)) (wCons (wVar 2) wNil))) (wVar 3)) (wCons (wOp fAdd (wOp fMod (wCall fInt (wCons (wOp fAdd (wOp fAdd (wOp fMul (wOp fMod (wCall fInt (wCons (wVar 2) wNil)) (wC (.int 2147483629))) (wC (.int 48271))) (wOp fMul (wC (.int 30011)) (wVar 1))) (wC (.int 977))) wNil)) (wC (.int 2147483629))) (wC (.int 1))) (wCons (wC (.int 0)) wNil)))))
def wk__law_box_3 : WS :=
  (wSq (wSet 3 (wCall fInt (wCons (wOp fGe (wVar 2) (wOp fPow (wC (.int 10)) (wC (.int 18)))) wNil)))
  wk__law_box_2)
def wk__law_box_4 : WS :=
  (wSq (wIf (wTest (wOp fLt (wVar 1) (wSLen 0)))
  (wSet 2 (wCall fAbs (wCons (wSIx 0 (wVar 1)) wNil)))
  wk__law_box_1)
  wk__law_box_3)
def wk__law_box_5 : WS :=
  (wSq (wSet 2 (wOp fAdd (wOp fMul (wC (.int 7411)) (wVar 1)) (wC (.int 1304))))
  wk__law_box_4)
def ws__law_box : WS :=
  wk__law_box_5
def wr__law_box : WS :=
  (wSq (wSet 2 (wOp fAdd (wOp fMul (wC (.int 7411)) (wVar 1)) (wC (.int 1304))))
  (wSq (wIf (wTest (wOp fLt (wVar 1) (wSLen 0)))
  (wSet 2 (wCall fAbs (wCons (wSIx 0 (wVar 1)) wNil)))
  (wIf (wTest (wOp fGt (wSLen 0) (wC (.int 0))))
  (wSet 2 (wOp fAdd (wVar 2) (wOp fMul (wOp fMod (wCall fInt (wCons (wCall fAbs (wCons (wSIx 0 (wOp fMod (wCall fInt (wCons (wVar 1) wNil)) (wSLen 0))) wNil)) wNil)) (wC (.int 2147483629))) (wC (.int 60719)))))
  wNx))
  (wSq (wSet 3 (wCall fInt (wCons (wOp fGe (wVar 2) (wOp fPow (wC (.int 10)) (wC (.int 18)))) wNil)))
  (wRet (wLst (wCons (wOp fIx (wLst (wCons (wC (.int 0)) (wCons (wVar 2) wNil))) (wVar 3)) (wCons (wOp fAdd (wOp fMod (wCall fInt (wCons (wOp fAdd (wOp fAdd (wOp fMul (wOp fMod (wCall fInt (wCons (wVar 2) wNil)) (wC (.int 2147483629))) (wC (.int 48271))) (wOp fMul (wC (.int 30011)) (wVar 1))) (wC (.int 977))) wNil)) (wC (.int 2147483629))) (wC (.int 1))) (wCons (wC (.int 0)) wNil))))))))

theorem box_end {ns : List Int} {k cell : Int} {Φ : PyData → Prop} (k0 : 0 ≤ k) (k1 : k ≤ 100) (c0 : 0 ≤ cell) (h : ∀ d, BoxOk d → Φ d) : wk__law_box_3 (retX Φ) [.s ns, .d (.int k), .d (.int cell), .u] := by
  have f0 : (0 : Int) ≤ cell.fmod 2147483629 := Int.fmod_nonneg_of_pos _ (by decide)
  have f1 : cell.fmod 2147483629 < 2147483629 := Int.fmod_lt_of_pos _ (by decide)
  have key : ∀ j g : Int, (j = 0 ∧ g = 0 ∨ j = 1 ∧ g = cell) → wk__law_box_2 (retX Φ) [.s ns, .d (.int k), .d (.int cell), .d (.int j)] := by
    intro j g hj
    have m0 : (0 : Int) ≤ ((cell.fmod 2147483629) * 48271 + 30011 * k + 977).fmod 2147483629 := Int.fmod_nonneg_of_pos _ (by decide)
    have m1 : ((cell.fmod 2147483629) * 48271 + 30011 * k + 977).fmod 2147483629 < 2147483629 := Int.fmod_lt_of_pos _ (by decide)
    have w1 : CMulW (cell.fmod 2147483629) 48271 := cmulw (sml (Nat.lt_of_lt_of_le (show _ < 2 ^ 64 by omega) (p2 (by decide)))) (sml (by decide))
    have w2 : CMulW 30011 k := cmulw (sml (by decide)) (sml (Nat.lt_of_lt_of_le (show _ < 2 ^ 64 by omega) (p2 (by decide))))
    rcases hj with ⟨rfl, rfl⟩ | ⟨rfl, rfl⟩
    · exact ⟨(by decide : 2 ≤ 100000), .int 0, rfl, (by decide : (2147483629 : Int) ≠ 0), w1, w2, (by decide : (2147483629 : Int) ≠ 0), (by decide : 3 ≤ 100000), h _ ⟨0, _, rfl, Int.le_refl _, by omega, by omega⟩⟩
    · exact ⟨(by decide : 2 ≤ 100000), .int g, rfl, (by decide : (2147483629 : Int) ≠ 0), w1, w2, (by decide : (2147483629 : Int) ≠ 0), (by decide : 3 ≤ 100000), h _ ⟨g, _, rfl, c0, by omega, by omega⟩⟩
  refine sq ⟨⟨by decide, by decide, by decide⟩, ?_⟩
  show wk__law_box_2 (retX Φ) [.s ns, .d (.int k), .d (.int cell), .d (.int (if decide ((10 : Int) ^ 18 ≤ cell) = true then 1 else 0))]
  by_cases c : (10 : Int) ^ 18 ≤ cell
  · rw [decide_eq_true c, if_pos rfl]
    exact key 1 cell (.inr ⟨rfl, rfl⟩)
  · rw [decide_eq_false c, if_neg Bool.false_ne_true]
    exact key 0 0 (.inl ⟨rfl, rfl⟩)
theorem sem__law_box (ns : List Int) (ds : List PyData) (Φ : PyData → Prop) (h : F__law_box ns ds Φ) : ws__law_box (retX Φ) (evB 4 ns ds) := by
  obtain ⟨k, rfl, k0, k1, hl, h⟩ := h
  refine sq ⟨cmulw (sml (by decide)) (sml (Nat.lt_of_lt_of_le (show _ < 2 ^ 64 by omega) (p2 (by decide)))), ?_⟩
  show wk__law_box_4 (retX Φ) [.s ns, .d (.int k), .d (.int (7411 * k + 1304)), .u]
  show (if decide (k < (ns.length : Int)) = true then _ else _)
  by_cases c : k < (ns.length : Int)
  · rw [decide_eq_true c, if_pos rfl]
    obtain ⟨x, _, hx⟩ := atI_int k0 c
    exact ⟨x, hx, box_end k0 k1 (abs_nn x) h⟩
  · rw [decide_eq_false c, if_neg Bool.false_ne_true]
    show (if decide (0 < (ns.length : Int)) = true then _ else _)
    by_cases z : 0 < (ns.length : Int)
    · rw [decide_eq_true z, if_pos rfl]
      obtain ⟨x, _, hx⟩ := atI_int (xs := ns) (Int.fmod_nonneg_of_pos k z) (Int.fmod_lt_of_pos k z)
      have f0 : (0 : Int) ≤ (if x < 0 then -x else x).fmod 2147483629 := Int.fmod_nonneg_of_pos _ (by decide)
      have f1 : (if x < 0 then -x else x).fmod 2147483629 < 2147483629 := Int.fmod_lt_of_pos _ (by decide)
      refine ⟨by omega, x, hx, (by decide : (2147483629 : Int) ≠ 0), cmulw (sml (Nat.lt_of_lt_of_le (show _ < 2 ^ 64 by omega) (p2 (by decide)))) (sml (by decide)), box_end k0 k1 ?_ h⟩
      omega
    · rw [decide_eq_false z, if_neg Bool.false_ne_true]
      exact box_end k0 k1 (by omega) h

theorem dv__law_box (T : Tx W mg) (cdv : Value) (A : Around) (env : List Env) (s : Shared) (H : Hp) (E : XK) (N0 : Addr → Prop) {f : Addr} (hr : Rg 0 (A.deeper (envOfC "_law_box" (defScope s__law_box) s.heap.objs.size f cdv))) :
    PSs (cxOf CX0 P w W.K mg base ["_law_script", "_law_k", "_law_cell", "_law_great"] "_law_box" (defScope s__law_box) f cdv A env s H E).nox (defBody s__law_box) (upS ⟨W, Res.none, N0, H⟩ wr__law_box) := by
  have hu : (A.deeper (envOfC "_law_box" (defScope s__law_box) s.heap.objs.size f cdv)).units + 65 < cLine := by have := hr.room.un; omega
  have nd := sc__law_box.nd
  exact (dss_cons (ds_set 2 nd (de_op op_addU (od_add (s := true)) (de_op op_mulU (od_mul (s := true)) (de_int (s := true)) (de_var 1)) (de_int (s := true))))
  (dss_cons (ds_if (dt_cmp op_ltU od_lt (de_var 1) (de_slen (s := true) 0 rfl (by rfl) T.m_len) (nomark _)) (dss_one (ds_set 2 nd (de_callB (s := true) call_abs cd_abs (by rfl) T.m_abs boot_abs (da_cons (de_six (s := true) 0 rfl (de_var 1) (fun _ _ => rfl)) (da_nil (s := true)))))) (dss_one (ds_if (dt_cmp op_gt od_gt (de_slen (s := true) 0 rfl (by rfl) T.m_len) (de_int (s := true)) (nomark _)) (dss_one (ds_set 2 nd (de_op op_addU (od_add (s := true)) (de_var 2) (de_op op_mulU (od_mul (s := true)) (de_op op_modN (od_mod (s := true)) (de_callT (s := true) call_int1 cd_int (by rfl) T.m_int boot_int (da_cons (de_callB (s := true) call_abs cd_abs (by rfl) T.m_abs boot_abs (da_cons (de_six (s := true) 0 rfl (de_op op_modN (od_mod (s := true)) (de_callT (s := true) call_int1 cd_int (by rfl) T.m_int boot_int (da_cons (de_var 1) (da_nil (s := true)))) (de_slen (s := true) 0 rfl (by rfl) T.m_len)) (fun _ _ => rfl)) (da_nil (s := true)))) (da_nil (s := true)))) (de_int (s := true))) (de_int (s := true)))))) dss_nil)))
  (dss_cons (ds_set 3 nd (de_callT (s := true) call_int1 cd_int (by rfl) T.m_int boot_int (da_cons (de_cmp op_ge (od_ge (s := true)) (de_var 2) (de_op op_pow (od_pow (s := true)) (de_int (s := true)) (de_int (s := true))) (nomark _)) (da_nil (s := true)))))
  (dss_one (ds_ret (de_lst (da_cons (de_ix rfl (de_lst (da_cons (de_int (s := true)) (da_cons (de_var 2) (da_nil (s := true))))) (de_var 3) (fun _ _ => rfl)) (da_cons (de_op op_addU (od_add (s := true)) (de_op op_modN (od_mod (s := true)) (de_callT (s := true) call_int1 cd_int (by rfl) T.m_int boot_int (da_cons (de_op op_addU (od_add (s := true)) (de_op op_addU (od_add (s := true)) (de_op op_mulU (od_mul (s := true)) (de_op op_modN (od_mod (s := true)) (de_callT (s := true) call_int1 cd_int (by rfl) T.m_int boot_int (da_cons (de_var 2) (da_nil (s := true)))) (de_int (s := true))) (de_int (s := true))) (de_op op_mulU (od_mul (s := true)) (de_int (s := true)) (de_var 1))) (de_int (s := true))) (da_nil (s := true)))) (de_int (s := true))) (de_int (s := true))) (da_cons (de_int (s := true)) (da_nil (s := true)))))))))))
theorem ok__law_box (T : Tx W mg) {f : Addr} {fd : FuncData} (Fn : Fun W.K "_law_box" "_law_box" s__law_box f fd) : FnG P w W.K mg base CX0 1 f fd ["_law_script", "_law_k"] (spB W 2 F__law_box) :=
  ok_scriptD Fn sc__law_box (by decide) (fun ns ds Φ h => len__law_box h) fun cdv A env s H E N0 hr => ⟨wr__law_box, dv__law_box T cdv A env s H E N0 hr, fun ns ds Φ h => sem__law_box ns ds Φ h⟩

def F__law_take : FD := fun ds Φ => ∃ k : Int, ds = [.int k] ∧ 0 < k ∧ k < 1099511627776 ∧ ∀ r, 0 ≤ r → r < k → Φ (.int r)
theorem len__law_take {ds Φ} (h : F__law_take ds Φ) : ds.length + 1 = 2 := by obtain ⟨a, e, _⟩ := h; rw [e]; rfl
def F__law_pick : FD := fun ds Φ => ∃ xs : List PyData, ds = [.list xs] ∧ xs ≠ [] ∧ xs.length ≤ 2000 ∧ ∀ x ∈ xs, Φ x
theorem len__law_pick {ds Φ} (h : F__law_pick ds Φ) : ds.length + 1 = 2 := by obtain ⟨a, e, _⟩ := h; rw [e]; rfl
-- slots of _law_pick: 0 _law_box_here, 1 _law_some
def wk__law_pick_0 : WS :=
  (wRet (wOp fIx (wVar 1) (wGR 0 F__law_take 2 (wCons (wCall fLen (wCons (wVar 1) wNil)) wNil))))
def ws__law_pick : WS :=
  wk__law_pick_0
def wr__law_pick : WS :=
  (wRet (wOp fIx (wVar 1) (wGR 0 F__law_take 2 (wCons (wCall fLen (wCons (wVar 1) wNil)) wNil))))

theorem sem__law_pick (ds : List PyData) (Φ : PyData → Prop) (h : F__law_pick ds Φ) : ws__law_pick (retX Φ) (ev1 2 ds) := by
  obtain ⟨xs, rfl, hn, hl, h⟩ := h
  have hp := List.length_pos_iff.mpr hn
  refine ⟨rfl, _, rfl, by omega, by omega, fun r h0 h1 => ?_⟩
  obtain ⟨n, rfl⟩ := Int.eq_ofNat_of_zero_le h0
  have hi : n < xs.length := by omega
  exact ⟨xs[n], atI_nat (List.getElem?_eq_getElem hi), h _ (List.getElem_mem hi)⟩

theorem dv__law_pick (T : Tx W mg) (c__law_take : Cal P w W.K mg base 1 "_law_take" s__law_take ["_law_box_here", "_law_many"] (spN W RR 1 2 F__law_take)) (cdv : Value) (A : Around) (env : List Env) (s : Shared) (H : Hp) (E : XK) (N0 : Addr → Prop) (b c : Addr) {f : Addr} (hr : Rg 1 (A.deeper (envOfC "_law_pick" (defScope s__law_pick) s.heap.objs.size f cdv))) :
    PSs (cxOf CX0 P w W.K mg base ["_law_box_here", "_law_some"] "_law_pick" (defScope s__law_pick) f cdv A env s H E).nox (defBody s__law_pick) (uS ⟨W, RR b c, N0, H⟩ 1 wr__law_pick) := by
  have hu : (A.deeper (envOfC "_law_pick" (defScope s__law_pick) s.heap.objs.size f cdv)).units + 65 < cLine := by have := hr.room.un; omega
  have nd := sc__law_pick.nd
  exact (nss_le (nss_one (ns_ret (ne_ix rfl (ne_lift fun _ => (de_var 1)) (ne_callR 0 c__law_take rfl rfl hr (kb__law_take_2) (by decide) (by rfl) (na_lift fun _ => (da_cons (de_callB (s := true) call_len cd_len (by rfl) T.m_len boot_len (da_cons (de_var 1) (da_nil (s := true)))) (da_nil (s := true))))) (fun _ _ => rfl)))) (by decide))
theorem ok__law_pick (T : Tx W mg) (c__law_take : Cal P w W.K mg base 1 "_law_take" s__law_take ["_law_box_here", "_law_many"] (spN W RR 1 2 F__law_take)) {f : Addr} {fd : FuncData} (Fn : Fun W.K "_law_pick" "_law_pick" s__law_pick f fd) : FnG P w W.K mg base CX0 2 f fd ["_law_box_here", "_law_some"] (spN W RR 1 2 F__law_pick) :=
  ok_drawN Fn sc__law_pick (by decide) (fun ds Φ h => len__law_pick h) fun cdv A env s H E N0 b c hr => ⟨wr__law_pick, dv__law_pick T c__law_take cdv A env s H E N0 b c hr, fun ds Φ h => sem__law_pick ds Φ h⟩

abbrev PTK : List Str := ["_law_box_here", "_law_many"]
theorem sc__law_take : FnScope ["_law_box_here", "_law_many", "_law_digit", "_law_raw"] ["_law_box_here", "_law_many"] (defScope s__law_take) := ⟨rfl, rfl, rfl, by decide +kernel, rfl, by decide +kernel, by decide +kernel⟩
theorem ok__law_take {TT : List (Addr × Str)} (T : Tx W mg) {f : Addr} {fd : FuncData} (Fn : Fun W.K "_law_take" "_law_take" s__law_take f fd) : FnG P w W.K mg base CX0 1 f fd ["_law_box_here", "_law_many"] (spN W (bxN TT) 1 2 F__law_take) := by
  refine FnG.mk' Fn sc__law_take (fun vs H Q E h => ?_) fun cdv A env s H vs Q E hr h => ?_
  · obtain ⟨b, c, m, N', ds, vs', Φ, _, _, hl, _⟩ := h
    exact hl
  obtain ⟨b, c, n, N', ds, vs', Φ, hn, rfl, hl, hI, ra, al, im, ⟨m, rfl, m0, m1, hm⟩, q⟩ := h
  obtain ⟨v1, rfl, e1⟩ := im1 im
  obtain rfl : v1 = .int m := e1
  have nd := sc__law_take.nd
  have der : PSs (cxOf CX0 P w W.K mg base ["_law_box_here", "_law_many", "_law_digit", "_law_raw"] "_law_take" (defScope s__law_take) f cdv A env s H E).nox (defBody s__law_take) _ :=
    pss_cons (ps_if (pt_cmpR op_gt (pe_ix ix_list (pe_var (i := 0) rfl (.inl rfl)) pe_int (fun _ _ => rfl)) pe_int (nomark _))
        (pss_cons (ps_set (i := 2) nd rfl (.inl rfl) (pe_op op_modN (pe_callTy call_int1 (by rfl) T.m_int boot_int (pa_cons (pe_ix ix_list (pe_var (i := 0) rfl (.inl rfl)) pe_int (fun _ _ => rfl)) pa_nil rfl)) (pe_var (i := 1) rfl (.inl rfl))) rfl (.inl rfl))
        (pss_cons (ps_asg (pe_op op_divU (pe_ix ix_list (pe_var (i := 0) rfl (.inl rfl)) pe_int (fun _ _ => rfl)) (pe_var (i := 1) rfl (.inl rfl))) (pg_sub (pe_var (i := 0) rfl (.inl rfl)) pe_int set_list))
        (pss_one (ps_ret (pe_var (i := 2) rfl (.inl rfl))))))
        pss_nil)
    (pss_cons (ps_asg (pe_op op_add (pe_ix ix_list (pe_var (i := 0) rfl (.inl rfl)) pe_int (fun _ _ => rfl)) pe_int) (pg_sub (pe_var (i := 0) rfl (.inl rfl)) pe_int set_list))
    (pss_cons (ps_set (i := 3) nd rfl (.inl rfl) (pe_op op_modN (pe_callTy call_int1 (by rfl) T.m_int boot_int (pa_cons (pe_op op_add (pe_op op_mulW (pe_op op_add (pe_ix ix_list (pe_var (i := 0) rfl (.inl rfl)) pe_int (fun _ _ => rfl)) (pe_op op_mulW pe_int (pe_ix ix_list (pe_var (i := 0) rfl (.inl rfl)) pe_int (fun _ _ => rfl)))) pe_int) pe_int) pa_nil rfl)) pe_int) rfl (.inl rfl))
    (pss_cons (ps_asg (pe_op op_add (pe_op op_modN (pe_callTy call_int1 (by rfl) T.m_int boot_int (pa_cons (pe_op op_add (pe_op op_mulW (pe_var (i := 3) rfl (.inl rfl)) pe_int) pe_int) pa_nil rfl)) pe_int) pe_int) (pg_sub (pe_var (i := 0) rfl (.inl rfl)) pe_int set_list))
    (pss_one (ps_ret (pe_op op_modN (pe_callTy call_int1 (by rfl) T.m_int boot_int (pa_cons (pe_op op_fdivN (pe_op op_add (pe_op op_mulW (pe_var (i := 3) rfl (.inl rfl)) pe_int) (pe_ix ix_list (pe_var (i := 0) rfl (.inl rfl)) pe_int (fun _ _ => rfl))) pe_int) pa_nil rfl)) (pe_var (i := 1) rfl (.inl rfl))))))))
  refine ⟨_, der.nox, ?_⟩
  obtain ⟨⟨g, s, t, hb, g0, s0, s1, t0, t1⟩, tb, ne⟩ := hI
  have D0 : Bd TT b c H H [.int g, .int s, .int t] := ⟨Keep.refl H, hb, tb, ne⟩
  have r0 : ∀ x : Int, 0 ≤ x.fmod m := fun x => Int.fmod_nonneg_of_pos _ m0
  have r1 : ∀ x : Int, x.fmod m < m := fun x => Int.fmod_lt_of_pos _ m0
  refine ⟨_, rfl, b, _, 0, .int g, rfl, rfl, .inl (.inl hb), rfl, g, 0, rfl, rfl, _, rfl, ?_⟩
  by_cases hg : 0 < g
  · rw [decide_eq_true hg]
    show (if true = true then _ else _)
    rw [if_pos rfl]
    have mw : m.natAbs.log2 < 9000 := (Nat.log2_lt (by omega)).mpr (Nat.lt_of_lt_of_le (show m.natAbs < 2 ^ 40 by omega) (Nat.pow_le_pow_right (by decide) (by decide)))
    have D1 := D0.set [.int (g / m), .int s, .int t]
    have gd : 0 ≤ g / m := Int.ediv_nonneg g0 (Int.le_of_lt m0)
    exact ⟨_, rfl, b, _, 0, .int g, rfl, rfl, .inl (.inl hb), rfl, .inl ⟨g, rfl, _, rfl, g, m, rfl, rfl, by omega, _, rfl, b, _, 0, .int g, rfl, rfl, .inl (.inl hb), rfl, _, rfl, .inr ⟨g, m, rfl, rfl, ⟨m0, mw⟩, _, rfl, b, _, 0, 0, rfl, rfl, hb, rfl, _, rfl,
      q _ _ (.int _) (hm _ (r0 g) (r1 g)) rfl D1.kp (D1.I gd s0 s1 t0 (by omega))⟩⟩⟩
  · rw [decide_eq_false hg]
    show (if false = true then _ else _)
    rw [if_neg Bool.false_ne_true]
    have D1 := D0.set [.int g, .int s, .int (t + 1)]
    have a0 : (0 : Int) ≤ ((s + 99991 * (t + 1)) * 69621 + 53).fmod 2147483563 := Int.fmod_nonneg_of_pos _ (by decide)
    have a1 : ((s + 99991 * (t + 1)) * 69621 + 53).fmod 2147483563 < 2147483563 := Int.fmod_lt_of_pos _ (by decide)
    have w1 : CMulW 99991 (t + 1) := cmulw (sml (by decide)) (sml (Nat.lt_of_lt_of_le (show _ < 2 ^ 64 by omega) (p2 (by decide))))
    have w2 : CMulW (s + 99991 * (t + 1)) 69621 := cmulw (sml (Nat.lt_of_lt_of_le (show _ < 2 ^ 100 by omega) (p2 (by decide)))) (sml (by decide))
    have b0 : (0 : Int) ≤ ((((s + 99991 * (t + 1)) * 69621 + 53).fmod 2147483563) * 40692 + 27011).fmod 2147483629 := Int.fmod_nonneg_of_pos _ (by decide)
    have b1 : ((((s + 99991 * (t + 1)) * 69621 + 53).fmod 2147483563) * 40692 + 27011).fmod 2147483629 < 2147483629 := Int.fmod_lt_of_pos _ (by decide)
    have w3 : CMulW (((s + 99991 * (t + 1)) * 69621 + 53).fmod 2147483563) 40692 := cmulw (sml (Nat.lt_of_lt_of_le (show _ < 2 ^ 64 by omega) (p2 (by decide)))) (sml (by decide))
    have w4 : CMulW (((s + 99991 * (t + 1)) * 69621 + 53).fmod 2147483563) 2147483647 := cmulw (sml (Nat.lt_of_lt_of_le (show _ < 2 ^ 64 by omega) (p2 (by decide)))) (sml (by decide))
    have D2 := D1.set [.int g, .int (((((s + 99991 * (t + 1)) * 69621 + 53).fmod 2147483563) * 40692 + 27011).fmod 2147483629 + 1), .int (t + 1)]
    refine ⟨_, rfl, b, _, 2, .int t, rfl, rfl, .inl (.inl hb), rfl, t, 1, rfl, rfl, _, rfl, b, _, 2, 2, rfl, rfl, hb, rfl, ?_⟩
    refine ⟨_, rfl, b, _, 1, .int s, rfl, rfl, .inl (.inl D1.hb), rfl, _, rfl, b, _, 2, .int (t + 1), rfl, rfl, .inl (.inl D1.hb), rfl, 99991, t + 1, rfl, rfl, w1, s, _, rfl, rfl, _, 69621, rfl, rfl, w2, _, 53, rfl, rfl, .inl ⟨_, rfl, _, 2147483563, rfl, rfl, (by decide : (2147483563 : Int) ≠ 0), ?_⟩⟩
    refine ⟨_, rfl, (((s + 99991 * (t + 1)) * 69621 + 53).fmod 2147483563), 40692, rfl, rfl, w3, _, 27011, rfl, rfl, .inl ⟨_, rfl, _, 2147483629, rfl, rfl, (by decide : (2147483629 : Int) ≠ 0), _, 1, rfl, rfl, _, rfl, b, _, 1, 1, rfl, rfl, D1.hb, rfl, ?_⟩⟩
    refine ⟨_, rfl, (((s + 99991 * (t + 1)) * 69621 + 53).fmod 2147483563), 2147483647, rfl, rfl, w4, _, rfl, b, _, 1, .int _, rfl, rfl, .inl (.inl D2.hb), rfl, _, _, rfl, rfl, _, 8191, rfl, rfl, ⟨by decide, by decide⟩, .inl ⟨_, rfl, _, rfl, _, m, rfl, rfl, by omega, ?_⟩⟩
    exact q _ _ (.int _) (hm _ (r0 _) (r1 _)) rfl D2.kp (D2.I g0 (by omega) (by omega) (by omega) (by omega))

abbrev s_E_InvalidNumber : Stmt := inClass (topS 3) 0
theorem sc_E_InvalidNumber : FnScope ["self", "word"] ["self", "word"] (defScope s_E_InvalidNumber) := ⟨rfl, rfl, rfl, by decide +kernel, rfl, by decide +kernel, by decide +kernel⟩
theorem ok_E_InvalidNumber {P : Program} {w : World} {mg : Str → Option Value} {base : Heap} {K : PySem.W.Frag} {C : Addr} (O : OexC K C) (no : PySem.W.findIn K (.ref C) "word" = some none) {f : Addr} {fd : FuncData} (Fn : Fun K "__init__" "InvalidNumber.__init__" s_E_InvalidNumber f fd) : FnOk P w K mg base CX0 1 f fd ["self", "word"] (spE C "word") := by
  refine Fn.ok sc_E_InvalidNumber (fun vs H Q E h => ?_) fun cdv A outer s H vs Q E hr h => ⟨_, pss_one (ps_ost (pe_var (i := 0) rfl (.inl rfl)) (pe_var (i := 1) rfl (.inl rfl)) rfl), ?_⟩
  · obtain ⟨a, v, rfl, _⟩ := h
    rfl
  · obtain ⟨a, v, rfl, ha, q⟩ := h
    exact ⟨v, rfl, _, rfl, a, C, rfl, O, no, .inl ⟨ha, q⟩⟩

abbrev s_E_Refused : Stmt := inClass (topS 4) 0
theorem sc_E_Refused : FnScope ["self", "word"] ["self", "word"] (defScope s_E_Refused) := ⟨rfl, rfl, rfl, by decide +kernel, rfl, by decide +kernel, by decide +kernel⟩
theorem ok_E_Refused {P : Program} {w : World} {mg : Str → Option Value} {base : Heap} {K : PySem.W.Frag} {C : Addr} (O : OexC K C) (no : PySem.W.findIn K (.ref C) "word" = some none) {f : Addr} {fd : FuncData} (Fn : Fun K "__init__" "Refused.__init__" s_E_Refused f fd) : FnOk P w K mg base CX0 1 f fd ["self", "word"] (spE C "word") := by
  refine Fn.ok sc_E_Refused (fun vs H Q E h => ?_) fun cdv A outer s H vs Q E hr h => ⟨_, pss_one (ps_ost (pe_var (i := 0) rfl (.inl rfl)) (pe_var (i := 1) rfl (.inl rfl)) rfl), ?_⟩
  · obtain ⟨a, v, rfl, _⟩ := h
    rfl
  · obtain ⟨a, v, rfl, ha, q⟩ := h
    exact ⟨v, rfl, _, rfl, a, C, rfl, O, no, .inl ⟨ha, q⟩⟩


abbrev s__law_refused : Stmt := topS 32
theorem sc__law_refused : FnScope ["_law_action", "error"] ["_law_action"] (defScope s__law_refused) := ⟨rfl, rfl, rfl, by decide +kernel, rfl, by decide +kernel, by decide +kernel⟩
theorem pe_post {X : Cx} {e : Expr} {t : TE} (h : PE X e t) : PE X e (fun σ H Q => ∃ Q0 : VK, (∀ v H', Q0 v H' → Q v H') ∧ t σ H Q0) :=
  ⟨fun pins s σ H Q I ⟨Q0, hq, ht⟩ => wpAny_mono (h.run pins s σ H Q0 I ht) (fun v s' hh => by
    obtain ⟨w, H', J, r, q⟩ := hh
    exact ⟨w, H', J, r, hq _ _ q⟩) fun _ _ q => q⟩
theorem th__law_refused {P : Program} {w : World} {K : PySem.W.Frag} {mg : Str → Option Value} {base : Heap} {CB CP fB fP : Addr} {stB stP : Stmt} {fdB fdP : FuncData} (EB : ErrC K mg "InvalidNumber" "word" CB fB stB fdB) (EP : ErrC K mg "Refused" "word" CP fP stP fdP)
    (nx : PySem.W.exmOne K (.ref CP) (.ref CB) = some false) {er : Errs} (e1 : er "InvalidNumber" = some (CB, ("word" : Str))) (e2 : er "Refused" = some (CP, ("word" : Str))) {f : Addr} {fd : FuncData} (Fn : Fun K "_law_refused" "_law_refused" s__law_refused f fd) (hm : mg "_law_refused" = some (.ref f)) (hb : Binds K fd ["_law_action"] []) :
    CalTh P w K mg base "_law_refused" "_law_action" s__law_refused ["_law_action", "error"] er none [("InvalidNumber", "number"), ("Refused", "refused")] := by
  refine ⟨⟨f, fd, Fn, hm, hb⟩, sc__law_refused, rfl, .inl rfl, fun X lq g cd k hP hw hK hmg hbase => ?_⟩
  subst hP hw hK hmg hbase
  intro f1 c1 z G Q tl hr act code tt
  have nd := sc__law_refused.nd
  have der : PSs (defCx X ["_law_action", "error"] "_law_refused" (defScope s__law_refused) g cd z G E0).nox (defBody s__law_refused) _ :=
    pss_cons (ps_try_named (i := 1) (Wo := fun _ _ _ _ => False) rfl rfl nd rfl rfl L2.takes0
      (fun W pn xe tk _ => pss_one (ps_expr (pe_post (act W pn xe _ _ tk))))
      (.more ⟨rfl, by decide, .inl EB.at_⟩ (fun e o cl d pn hz hf => pss_one (ps_ret (pe_tup (pa_cons pe_str (pa_cons (pe_exAt EB hz hf (pe_var (i := 1) rfl (.inl rfl))) pa_nil rfl) rfl))))
        (.more ⟨rfl, by decide, .inl EP.at_⟩ (fun e o cl d pn hz hf => pss_one (ps_ret (pe_tup (pa_cons pe_str (pa_cons (pe_exAt EP hz hf (pe_var (i := 1) rfl (.inl rfl))) pa_nil rfl) rfl)))) .done)))
    (pss_one (ps_ret pe_non))
  refine ⟨_, der, ?_⟩
  refine ⟨fun v G1 => Q .non G1, fun v G1 hv => ?_, _, fun cl d G2 hE => ?_, rfl, code, tt⟩
  · exact hv
  · obtain ⟨y, tag, C, fld, dd, v, hl, he, rfl, rfl, hx, q⟩ := hE
    by_cases y1 : y = "InvalidNumber"
    · subst y1
      rw [e1] at he
      obtain ⟨rfl, rfl⟩ : CB = C ∧ ("word" : Str) = fld := by
        have := Option.some.inj he
        exact ⟨congrArg Prod.fst this, congrArg Prod.snd this⟩
      have ht : some ("number" : Str) = some tag := hl
      obtain rfl := Option.some.inj ht
      exact ⟨true, EB.self, fun _ a ha => ⟨_, rfl, rfl, rfl, dd, v, rfl, hx, (by show 2 ≤ sizeLine; decide), fun p hp => q p hp⟩, fun z => Bool.noConfusion z⟩
    · by_cases y2 : y = "Refused"
      · subst y2
        rw [e2] at he
        obtain ⟨rfl, rfl⟩ : CP = C ∧ ("word" : Str) = fld := by
          have := Option.some.inj he
          exact ⟨congrArg Prod.fst this, congrArg Prod.snd this⟩
        have ht : some ("refused" : Str) = some tag := hl
        obtain rfl := Option.some.inj ht
        exact ⟨false, nx, fun z => Bool.noConfusion z, fun _ => ⟨true, EP.self, fun _ a ha => ⟨_, rfl, rfl, rfl, dd, v, rfl, hx, (by show 2 ≤ sizeLine; decide), fun p hp => q p hp⟩, fun z => Bool.noConfusion z⟩⟩
      · have b1 : (y == ("InvalidNumber" : Str)) = false := beq_false_of_ne y1
        have b2 : (y == ("Refused" : Str)) = false := beq_false_of_ne y2
        simp only [List.lookup, b1, b2] at hl
        cases hl

def gK (ks : List Int) : Nat := ks.foldl (fun a k => Nat.gcd a k.natAbs) 0
def F__law_common : FD := fun ds Φ => ∃ (d : PyData) (t : Bool) (ks : List Int), ds = [d] ∧ seqOfD d = some (t, ks.map .int) ∧ Φ (.int ((gK ks : Nat) : Int))
theorem len__law_common {ds Φ} (h : F__law_common ds Φ) : ds.length = 1 := by obtain ⟨d, t, a, e, _⟩ := h; rw [e]; rfl
-- slots of _law_common: 0 _law_numbers, 1 _law_found, 2 _law_item, 3 _law_one, 4 _law_other
def wk__law_common_0 : WS :=
  (wPars [3, 4] (wEd (wVar 4) (wEd (wOp fMod (wCall fInt (wCons (wVar 3) wNil)) (wVar 4)) wEn)))
def wk__law_common_1 : WS :=
  (wSq (wWhile (wTest (wOp fGt (wVar 4) (wC (.int 0))))
  wk__law_common_0)
  (wSet 1 (wVar 3)))
def wk__law_common_2 : WS :=
  (wSq (wPars [3, 4] (wEd (wVar 1) (wEd (wCall fAbs (wCons (wVar 2) wNil)) wEn)))
  wk__law_common_1)
def wk__law_common_3 : WS :=
  (wSq (wFor (wSqI 0) (gN 2)
  wk__law_common_2)
  (wRet (wVar 1)))
def ws__law_common : WS :=
  (wSq (wSet 1 (wC (.int 0)))
  wk__law_common_3)
def wr__law_common : WS :=
  (wSq (wSet 1 (wC (.int 0)))
  (wSq (wFor (wSqI 0) (gN 2)
  (wSq (wPars [3, 4] (wEd (wVar 1) (wEd (wCall fAbs (wCons (wVar 2) wNil)) wEn)))
  (wSq (wWhile (wTest (wOp fGt (wVar 4) (wC (.int 0))))
  (wPars [3, 4] (wEd (wVar 4) (wEd (wOp fMod (wCall fInt (wCons (wVar 3) wNil)) (wVar 4)) wEn))))
  (wSet 1 (wVar 3)))))
  (wRet (wVar 1))))

theorem sem__law_common (ds : List PyData) (Φ : PyData → Prop) (h : F__law_common ds Φ) : ws__law_common (retX Φ) (ev0 5 ds) := by
  obtain ⟨d, t, ks, rfl, hd, h⟩ := h
  obtain rfl := seqOfD_eq hd
  show wSq (wFor (wSqI 0) (gN 2) wk__law_common_2) _ (retX Φ) [.d (sqD t (ks.map .int)), .d (.int 0), .u, .u, .u]
  refine sq (for_all (ds := ks.map .int) (fun i ρ => ∃ x y z : Ent, ρ = [.d (sqD t (ks.map .int)), .d (.int ((gK (ks.take i) : Nat) : Int)), x, y, z]) (fun Ψ h => by cases t <;> exact h) ⟨.u, .u, .u, rfl⟩ (fun i d ρ2 hd hj => ?_) fun ρ2 hj => ?_)
  · obtain ⟨x, y, z, rfl⟩ := hj
    obtain ⟨c, hc, rfl⟩ := map_at hd
    have e : gK (ks.take (i + 1)) = Nat.gcd (gK (ks.take i)) c.natAbs := by
      unfold gK
      rw [take_more hc, List.foldl_append]
      rfl
    generalize gK (ks.take i) = a0 at e ⊢
    refine ⟨(by decide : 2 < 5), ?_⟩
    refine sq ⟨rfl, ⟨(by decide : 2 ≤ 100000), fun j hj => ?_⟩, ?_⟩
    · have : j = 3 ∨ j = 4 := by simpa using hj
      show j < 5
      omega
    show wSq (wWhile (wTest (wOp fGt (wVar 4) (wC (.int 0)))) wk__law_common_0) (wSet 1 (wVar 3)) _ [.d (sqD t (ks.map .int)), .d (.int (a0 : Nat)), .d (.int c), .d (.int (a0 : Nat)), .d (.int (if c < 0 then -c else c))]
    rw [abs_nat c]
    refine sq ⟨fun m ρ => ∃ a b : Nat, ρ = [.d (sqD t (ks.map .int)), .d (.int (a0 : Nat)), .d (.int c), .d (.int (a : Nat)), .d (.int (b : Nat))] ∧ Nat.gcd a b = Nat.gcd a0 c.natAbs ∧ m = b, ⟨c.natAbs, a0, c.natAbs, rfl, rfl, rfl⟩, fun m ρ2 hj => ?_⟩
    obtain ⟨a, b, rfl, hg, hm⟩ := hj
    show (if decide ((0 : Int) < (b : Nat)) = true then _ else _)
    by_cases hb : (0 : Int) < (b : Nat)
    · rw [decide_eq_true hb, if_pos rfl]
      refine ⟨by omega, rfl, ⟨(by decide : 2 ≤ 100000), fun j hj => ?_⟩, ?_⟩
      · have : j = 3 ∨ j = 4 := by simpa using hj
        show j < 5
        omega
      · refine ⟨a % b, by rw [hm]; exact Nat.mod_lt _ (by omega), b, a % b, ?_, ?_, rfl⟩
        · have e : Int.fmod (a : Int) (b : Int) = ((a % b : Nat) : Int) := by
            rw [Int.fmod_eq_emod_of_nonneg _ (by omega)]
            rfl
          rw [← e]
          rfl
        · rw [← hg, Nat.gcd_comm b, ← Nat.gcd_rec, Nat.gcd_comm]
    · rw [decide_eq_false hb, if_neg Bool.false_ne_true]
      obtain rfl : b = 0 := by omega
      rw [Nat.gcd_zero_right] at hg
      refine ⟨.d (.int c), .d (.int (a : Nat)), .d (.int 0), ?_⟩
      rw [e, ← hg]
      rfl
  · obtain ⟨x, y, z, rfl⟩ := hj
    rw [List.length_map, List.take_length]
    exact h

theorem dv__law_common (T : Tx W mg) (cdv : Value) (A : Around) (env : List Env) (s : Shared) (H : Hp) (E : XK) (N0 : Addr → Prop) {f : Addr} (hr : Rg 0 (A.deeper (envOfC "_law_common" (defScope s__law_common) s.heap.objs.size f cdv))) :
    PSs (cxOf CX0 P w W.K mg base ["_law_numbers", "_law_found", "_law_item", "_law_one", "_law_other"] "_law_common" (defScope s__law_common) f cdv A env s H E).nox (defBody s__law_common) (upS ⟨W, Res.none, N0, H⟩ wr__law_common) := by
  have hu : (A.deeper (envOfC "_law_common" (defScope s__law_common) s.heap.objs.size f cdv)).units + 65 < cLine := by have := hr.room.un; omega
  have nd := sc__law_common.nd
  exact (dss_cons (ds_set 1 nd (de_int (s := true)))
  (dss_cons (ds_for PassesOwn.never rfl (di_seq 0 (di_list rfl (de_var 0)) (di_tup rfl (de_var 0))) (dg_name 2 nd) (dss_cons (ds_par2 3 4 rfl nd (ea_d (de_var 1) (ea_d (de_callB (s := true) call_abs cd_abs (by rfl) T.m_abs boot_abs (da_cons (de_var 2) (da_nil (s := true)))) ea_nil)))
  (dss_cons (ds_while PassesOwn.never (dt_cmp op_gt od_gt (de_var 4) (de_int (s := true)) (nomark _)) (dss_one (ds_par2 3 4 rfl nd (ea_d (de_var 4) (ea_d (de_op op_modN (od_mod (s := true)) (de_callT (s := true) call_int1 cd_int (by rfl) T.m_int boot_int (da_cons (de_var 3) (da_nil (s := true)))) (de_var 4)) ea_nil)))))
  (dss_one (ds_set 1 nd (de_var 3))))))
  (dss_one (ds_ret (de_var 1)))))
theorem ok__law_common (T : Tx W mg) {f : Addr} {fd : FuncData} (Fn : Fun W.K "_law_common" "_law_common" s__law_common f fd) : FnG P w W.K mg base CX0 1 f fd ["_law_numbers"] (spP W 1 F__law_common) :=
  ok_pure Fn sc__law_common (by decide) (fun ds Φ h => len__law_common h) fun cdv A env s H E N0 hr => ⟨wr__law_common, dv__law_common T cdv A env s H E N0 hr, fun ds Φ h => sem__law_common ds Φ h⟩

/-- one amount over another in lowest terms -/
def F__law_least : FD := fun ds Φ => ∃ x y : Int, ds = [.list [.int x], .int y] ∧ 0 < y ∧ y.natAbs < 2 ^ 9000 ∧ Φ (.tuple [.tuple [.int (x.fdiv (gg x y))], .int (y.fdiv (gg x y))])
theorem len__law_least {ds Φ} (h : F__law_least ds Φ) : ds.length = 2 := by obtain ⟨d, t, e, _⟩ := h; rw [e]; rfl
-- slots of _law_least: 0 _law_coefficients, 1 _law_bound, 2 _law_factor, 3 _law_item
def wk__law_least_0 : WS :=
  (wRet (wTup (wCons (wCall fTuple (wCons (wFv (wLc (wListI (wVar 0)) (gN 3) wYes (wOp fDiv (wVar 3) (wVar 2)) [3])) wNil)) (wCons (wOp fDiv (wVar 1) (wVar 2)) wNil))))
def wk__law_least_1 : WS :=
  (wSq (wSet 2 (wG F__law_common 1 0 [0] (wCons (wOp fAdd (wCall fList (wCons (wVar 0) wNil)) (wLst (wCons (wVar 1) wNil))) wNil) wNil))
  wk__law_least_0)
def ws__law_least : WS :=
  wk__law_least_1
def wr__law_least : WS :=
  (wSq (wSet 2 (wG F__law_common 1 0 [0] (wCons (wOp fAdd (wCall fList (wCons (wVar 0) wNil)) (wLst (wCons (wVar 1) wNil))) wNil) wNil))
  (wRet (wTup (wCons (wCall fTuple (wCons (wFv (wLc (wListI (wVar 0)) (gN 3) wYes (wOp fDiv (wVar 3) (wVar 2)) [3])) wNil)) (wCons (wOp fDiv (wVar 1) (wVar 2)) wNil)))))

theorem gK_two (x y : Int) : ((gK [x, y] : Nat) : Int) = gg x y := by
  show ((Nat.gcd (Nat.gcd 0 x.natAbs) y.natAbs : Nat) : Int) = _
  rw [Nat.gcd_zero_left]
  rfl
theorem sem__law_least (ds : List PyData) (Φ : PyData → Prop) (h : F__law_least ds Φ) : ws__law_least (retX Φ) (ev0 4 ds) := by
  obtain ⟨x, y, rfl, hy, hs, h⟩ := h
  have c := cdiv (t := x) hy hs
  refine sq ⟨(by decide : 1 ≤ 100000), (by decide : 2 ≤ 100000), rfl, rfl, .list [.int x, .int y], false, [x, y], rfl, rfl, ?_⟩
  rw [gK_two]
  generalize hg : gg x y = g at c h ⊢
  refine lc_map (ds := [.int x]) (fun d => .int ((intD d).fdiv g)) rfl (fun Ψ h => h) (by show 1 ≤ 100000; decide) (fun d hd Ψ q => ?_) ?_
  · obtain rfl := List.mem_singleton.mp hd
    exact ⟨(by decide : 3 < 4), c, q⟩
  · exact ⟨c, (by decide : 2 ≤ 100000), h⟩

theorem dv__law_least (T : Tx W mg) (c__law_common : Cal P w W.K mg base 1 "_law_common" s__law_common ["_law_numbers"] (spP W 1 F__law_common)) (cdv : Value) (A : Around) (env : List Env) (s : Shared) (H : Hp) (E : XK) (N0 : Addr → Prop) {f : Addr} (hr : Rg 1 (A.deeper (envOfC "_law_least" (defScope s__law_least) s.heap.objs.size f cdv))) :
    PSs (cxOf CX0 P w W.K mg base ["_law_coefficients", "_law_bound", "_law_factor", "_law_item"] "_law_least" (defScope s__law_least) f cdv A env s H E).nox (defBody s__law_least) (upS ⟨W, Res.none, N0, H⟩ wr__law_least) := by
  have hu : (A.deeper (envOfC "_law_least" (defScope s__law_least) s.heap.objs.size f cdv)).units + 65 < cLine := by have := hr.room.un; omega
  have nd := sc__law_least.nd
  exact (dss_cons (ds_set 2 nd (de_callP c__law_common rfl hr kb__law_common_1 (by decide) (by rfl) (da_cons (de_op op_addU (od_add (s := true)) (de_callT (s := true) call_list_of cd_list (by rfl) T.m_list boot_list (da_cons (de_var 0) (da_nil (s := true)))) (de_lst (da_cons (de_var 1) (da_nil (s := true))))) (da_nil (s := true)))))
  (dss_one (ds_ret (de_tup (da_cons (de_callT (s := true) call_tuple_of cd_tuple (by rfl) T.m_tuple boot_tuple (da_cons (de_fv (df_lc (own := [("_law_item", 3)]) rfl nd (di_list rfl (de_var 0)) (blkOk_by (by rfl)) (fun _ _ _ _ _ => (dg_name 3 nd)) (fun _ _ _ _ _ => dts_nil) (fun _ _ _ _ _ => (de_op op_divU (od_div (s := true)) (de_var 3) (de_var 2))))) (da_nil (s := true)))) (da_cons (de_op op_divU (od_div (s := true)) (de_var 1) (de_var 2)) (da_nil (s := true))))))))
theorem ok__law_least (T : Tx W mg) (c__law_common : Cal P w W.K mg base 1 "_law_common" s__law_common ["_law_numbers"] (spP W 1 F__law_common)) {f : Addr} {fd : FuncData} (Fn : Fun W.K "_law_least" "_law_least" s__law_least f fd) : FnG P w W.K mg base CX0 2 f fd ["_law_coefficients", "_law_bound"] (spP W 2 F__law_least) :=
  ok_pure Fn sc__law_least (by decide) (fun ds Φ h => len__law_least h) fun cdv A env s H E N0 hr => ⟨wr__law_least, dv__law_least T c__law_common cdv A env s H E N0 hr, fun ds Φ h => sem__law_least ds Φ h⟩

/-- a fraction that is drawn -/
def FrOk (q : Rat) : Prop := q.num.natAbs ≤ 1000000000 ∧ q.den ≤ 1000000000
def F__law_fraction : FD := fun ds Φ => ds = [] ∧ ∀ q, FrOk q → Φ (dQ q)
theorem len__law_fraction {ds Φ} (h : F__law_fraction ds Φ) : ds.length + 1 = 1 := by obtain ⟨e, _⟩ := h; rw [e]; rfl
-- slots of _law_fraction: 0 _law_box_here, 1 _law_most, 2 _law_row
def wk__law_fraction_0 : WS :=
  (wRet (wTup (wCons (wOp fIx (wOp fIx (wVar 2) (wC (.int 0))) (wC (.int 0))) (wCons (wOp fIx (wVar 2) (wC (.int 1))) wNil))))
def wk__law_fraction_1 : WS :=
  (wSq (wSet 2 (wG F__law_least 2 0 [0, 1] (wCons (wLst (wCons (wOp fSub (wGR 0 F__law_take 2 (wCons (wOp fAdd (wOp fMul (wC (.int 2)) (wVar 1)) (wC (.int 1))) wNil)) (wVar 1)) wNil)) (wCons (wOp fAdd (wC (.int 1)) (wGR 0 F__law_take 2 (wCons (wVar 1) wNil))) wNil)) wNil))
  wk__law_fraction_0)
def wk__law_fraction_2 : WS :=
  (wSq (wSet 1 (wGR 0 F__law_pick 2 (wCons (wLst (wCons (wC (.int 2)) (wCons (wC (.int 5)) (wCons (wC (.int 1000)) (wCons (wC (.int 1000000000)) wNil))))) wNil)))
  wk__law_fraction_1)
def ws__law_fraction : WS :=
  wk__law_fraction_2
def wr__law_fraction : WS :=
  (wSq (wSet 1 (wGR 0 F__law_pick 2 (wCons (wLst (wCons (wC (.int 2)) (wCons (wC (.int 5)) (wCons (wC (.int 1000)) (wCons (wC (.int 1000000000)) wNil))))) wNil)))
  (wSq (wSet 2 (wG F__law_least 2 0 [0, 1] (wCons (wLst (wCons (wOp fSub (wGR 0 F__law_take 2 (wCons (wOp fAdd (wOp fMul (wC (.int 2)) (wVar 1)) (wC (.int 1))) wNil)) (wVar 1)) wNil)) (wCons (wOp fAdd (wC (.int 1)) (wGR 0 F__law_take 2 (wCons (wVar 1) wNil))) wNil)) wNil))
  (wRet (wTup (wCons (wOp fIx (wOp fIx (wVar 2) (wC (.int 0))) (wC (.int 0))) (wCons (wOp fIx (wVar 2) (wC (.int 1))) wNil))))))

theorem fr_div {t b m : Int} (hb : 0 < b) (ht : t.natAbs ≤ m) (hbm : b ≤ m) (hm : m ≤ 1000000000) : FrOk (Rat.divInt t b) := by
  have e := cF_div (t := t) hb
  have g0 := gg_pos (t := t) hb
  have e1 : (Rat.divInt t b).num = t.fdiv (gg t b) := congrArg Prod.fst e
  have e2 : ((Rat.divInt t b).den : Int) = b.fdiv (gg t b) := congrArg Prod.snd e
  have a1 := fdiv_abs_le (v := t) g0
  have a2 := fdiv_abs_le (v := b) g0
  refine ⟨by rw [e1]; omega, ?_⟩
  have : ((Rat.divInt t b).den : Int).natAbs ≤ b.natAbs := by rw [e2]; exact a2
  omega
theorem sem__law_fraction (ds : List PyData) (Φ : PyData → Prop) (h : F__law_fraction ds Φ) : ws__law_fraction (retX Φ) (ev1 3 ds) := by
  obtain ⟨rfl, h⟩ := h
  refine sq ⟨(by decide : 4 ≤ 100000), rfl, [.int 2, .int 5, .int 1000, .int 1000000000], rfl, by simp, by decide, fun x hx => ?_⟩
  obtain ⟨m, rfl, m0, m1⟩ : ∃ m : Int, x = .int m ∧ 0 < m ∧ m ≤ 1000000000 := by
    simp only [List.mem_cons, List.not_mem_nil, or_false] at hx
    rcases hx with rfl | rfl | rfl | rfl
    · exact ⟨_, rfl, by decide, by decide⟩
    · exact ⟨_, rfl, by decide, by decide⟩
    · exact ⟨_, rfl, by decide, by decide⟩
    · exact ⟨_, rfl, by decide, by decide⟩
  refine sq ⟨cmulw (sml (by decide)) (sml (Nat.lt_of_lt_of_le (show _ < 2 ^ 64 by omega) (p2 (by decide)))), rfl, _, rfl, by omega, by omega, fun r r0 r1 => ⟨(by decide : 1 ≤ 100000), rfl, m, rfl, m0, by omega, fun s s0 s1 => ⟨rfl, rfl, r - m, 1 + s, rfl, by omega, sml (Nat.lt_of_lt_of_le (show _ < 2 ^ 64 by omega) (p2 (by decide))), ?_⟩⟩⟩
  refine ⟨_, rfl, _, rfl, _, rfl, (by decide : 2 ≤ 100000), ?_⟩
  have := h _ (fr_div (t := r - m) (b := 1 + s) (m := m) (by omega) (by omega) (by omega) m1)
  unfold dQ at this
  rw [cF_div (by omega)] at this
  exact this

theorem dv__law_fraction (T : Tx W mg) (c__law_least : Cal P w W.K mg base 2 "_law_least" s__law_least ["_law_coefficients", "_law_bound"] (spP W 2 F__law_least)) (c__law_pick : Cal P w W.K mg base 2 "_law_pick" s__law_pick ["_law_box_here", "_law_some"] (spN W RR 1 2 F__law_pick)) (c__law_take : Cal P w W.K mg base 1 "_law_take" s__law_take ["_law_box_here", "_law_many"] (spN W RR 1 2 F__law_take)) (cdv : Value) (A : Around) (env : List Env) (s : Shared) (H : Hp) (E : XK) (N0 : Addr → Prop) (b c : Addr) {f : Addr} (hr : Rg 2 (A.deeper (envOfC "_law_fraction" (defScope s__law_fraction) s.heap.objs.size f cdv))) :
    PSs (cxOf CX0 P w W.K mg base ["_law_box_here", "_law_most", "_law_row"] "_law_fraction" (defScope s__law_fraction) f cdv A env s H E).nox (defBody s__law_fraction) (uS ⟨W, RR b c, N0, H⟩ 3 wr__law_fraction) := by
  have hu : (A.deeper (envOfC "_law_fraction" (defScope s__law_fraction) s.heap.objs.size f cdv)).units + 65 < cLine := by have := hr.room.un; omega
  have nd := sc__law_fraction.nd
  exact (nss_le (nss_cons (ns_set 1 nd (ne_callR 0 c__law_pick rfl rfl hr (kb__law_pick_2) (by decide) (by rfl) (na_lift fun _ => (da_cons (de_lst (da_cons (de_int (s := true)) (da_cons (de_int (s := true)) (da_cons (de_int (s := true)) (da_cons (de_int (s := true)) (da_nil (s := true))))))) (da_nil (s := true))))))
  (nss_cons (ns_set 2 nd (ne_callP c__law_least rfl hr kb__law_least_2 (by decide) (by rfl) (na_cons (ne_lst (na_cons (ne_op op_sub (fun _ => od_sub (s := true)) (ne_callR 0 c__law_take rfl rfl hr (kb__law_take_2) (by decide) (by rfl) (na_lift fun _ => (da_cons (de_op op_addU (od_add (s := true)) (de_op op_mulU (od_mul (s := true)) (de_int (s := true)) (de_var 1)) (de_int (s := true))) (da_nil (s := true))))) (ne_lift fun _ => (de_var 1))) (na_lift fun _ => da_nil (s := true)))) (na_cons (ne_op op_addU (fun _ => od_add (s := true)) (ne_lift fun _ => (de_int (s := true))) (ne_callR 0 c__law_take rfl rfl hr (kb__law_take_2) (by decide) (by rfl) (na_lift fun _ => (da_cons (de_var 1) (da_nil (s := true)))))) (na_lift fun _ => da_nil (s := true))))))
  (nss_one (ns_lift fun _ => (ds_ret (de_tup (da_cons (de_ix rfl (de_ix rfl (de_var 2) (de_int (s := true)) (fun _ _ => rfl)) (de_int (s := true)) (fun _ _ => rfl)) (da_cons (de_ix rfl (de_var 2) (de_int (s := true)) (fun _ _ => rfl)) (da_nil (s := true)))))))))) (by decide))
theorem ok__law_fraction (T : Tx W mg) (c__law_least : Cal P w W.K mg base 2 "_law_least" s__law_least ["_law_coefficients", "_law_bound"] (spP W 2 F__law_least)) (c__law_pick : Cal P w W.K mg base 2 "_law_pick" s__law_pick ["_law_box_here", "_law_some"] (spN W RR 1 2 F__law_pick)) (c__law_take : Cal P w W.K mg base 1 "_law_take" s__law_take ["_law_box_here", "_law_many"] (spN W RR 1 2 F__law_take)) {f : Addr} {fd : FuncData} (Fn : Fun W.K "_law_fraction" "_law_fraction" s__law_fraction f fd) : FnG P w W.K mg base CX0 3 f fd ["_law_box_here"] (spN W RR 3 1 F__law_fraction) :=
  ok_drawN Fn sc__law_fraction (by decide) (fun ds Φ h => len__law_fraction h) fun cdv A env s H E N0 b c hr => ⟨wr__law_fraction, dv__law_fraction T c__law_least c__law_pick c__law_take cdv A env s H E N0 b c hr, fun ds Φ h => sem__law_fraction ds Φ h⟩

def F__law_is : FD := fun ds Φ => ∃ d, ds = [d] ∧ oddOk d ∧ Φ (.bool (frB d))
theorem len__law_is {ds Φ} (h : F__law_is ds Φ) : ds.length = 1 := by obtain ⟨a, e, _⟩ := h; rw [e]; rfl
-- slots of _law_is: 0 _law_value, 1 _law_item
def wk__law_is_0 : WS :=
  (wRet (wAndV (wOp fGt (wOp fIx (wVar 0) (wC (.int 1))) (wC (.int 0))) (wOp fEq (wG F__law_common 1 0 [0] (wCons (wVar 0) wNil) wNil) (wC (.int 1)))))
def wk__law_is_1 : WS :=
  (wSq (wIf (wNot (wTest (wCall fAll (wCons (wFv (wLc (wTupI (wVar 0)) (gN 1) wYes (wAndV (wIsi "int" (wVar 1)) (wNotV (wIsi "bool" (wVar 1)))) [1])) wNil))))
  (wRet (wC (.bool false)))
  wNx)
  wk__law_is_0)
def wk__law_is_2 : WS :=
  (wSq (wIf (wOr (wNot (wTest (wIsi "tuple" (wVar 0)))) (wTest (wOp fNe (wCall fLen (wCons (wVar 0) wNil)) (wC (.int 2)))))
  (wRet (wC (.bool false)))
  wNx)
  wk__law_is_1)
def ws__law_is : WS :=
  wk__law_is_2
def wr__law_is : WS :=
  (wSq (wIf (wOr (wNot (wTest (wIsi "tuple" (wVar 0)))) (wTest (wOp fNe (wCall fLen (wCons (wVar 0) wNil)) (wC (.int 2)))))
  (wRet (wC (.bool false)))
  wNx)
  (wSq (wIf (wNot (wTest (wCall fAll (wCons (wFv (wLc (wTupI (wVar 0)) (gN 1) wYes (wAndV (wIsi "int" (wVar 1)) (wNotV (wIsi "bool" (wVar 1)))) [1])) wNil))))
  (wRet (wC (.bool false)))
  wNx)
  (wRet (wAndV (wOp fGt (wOp fIx (wVar 0) (wC (.int 1))) (wC (.int 0))) (wOp fEq (wG F__law_common 1 0 [0] (wCons (wVar 0) wNil) wNil) (wC (.int 1)))))))

def intB : PyData → Bool
  | .int _ => true
  | _ => false
theorem frB_bad {x y : PyData} (h : (intB x && intB y) = false) : frB (.tuple [x, y]) = false := by
  cases x <;> cases y <;> first | rfl | cases h
theorem sem__law_is (ds : List PyData) (Φ : PyData → Prop) (h : F__law_is ds Φ) : ws__law_is (retX Φ) (ev0 2 ds) := by
  obtain ⟨d, rfl, ⟨hp, hx⟩, h⟩ := h
  have hk := plainO_k hp
  cases d with
  | int i => exact ⟨false, rfl, hk, h⟩
  | bool b => exact ⟨false, rfl, hk, h⟩
  | none => exact ⟨false, rfl, hk, h⟩
  | str x => exact ⟨false, rfl, hk, h⟩
  | list x => exact ⟨false, rfl, hk, h⟩
  | dict x => exact ⟨false, rfl, hk, h⟩
  | tuple xs =>
    refine ⟨true, rfl, hk, fit_int _, fit_int _, ?_⟩
    rw [eqv_int]
    by_cases l2 : xs.length = 2
    · rw [decide_eq_true (by omega)]
      match xs, l2, hx with
      | [x, y], _, hx =>
        show wk__law_is_1 (retX Φ) [.d (.tuple [x, y]), .u]
        refine sq (lc_map (ds := [x, y]) (fun d => .bool (intB d)) rfl (fun Ψ h => h) (by show 2 ≤ 100000; decide) (fun d hd Ψ q => ?_) ?_)
        · have hd2 := plainO_k (hx _ rfl d hd)
          refine ⟨(by decide : 1 < 2), ?_⟩
          cases d with
          | int i => exact ⟨true, rfl, hd2, false, rfl, hd2, q⟩
          | bool b => exact ⟨true, rfl, hd2, true, rfl, hd2, q⟩
          | none => exact ⟨false, rfl, hd2, q⟩
          | str x => exact ⟨false, rfl, hd2, q⟩
          | list x => exact ⟨false, rfl, hd2, q⟩
          | tuple x => exact ⟨false, rfl, hd2, q⟩
          | dict x => exact ⟨false, rfl, hd2, q⟩
        · refine ⟨[intB x, intB y], rfl, ?_⟩
          show (if (!(intB x && (intB y && true))) = true then _ else _)
          rw [Bool.and_true]
          by_cases c : (intB x && intB y) = true
          · rw [c]
            show (if false = true then _ else _)
            rw [if_neg Bool.false_ne_true]
            dsimp only [wNx]
            rw [Bool.and_eq_true] at c
            cases x with
            | int x =>
              cases y with
              | int y =>
                have h : Φ (.bool (decide (0 < y) && decide (gg x y = 1))) := h
                refine ⟨_, rfl, ?_⟩
                show (if decide (0 < y) = true then _ else _)
                by_cases hy : 0 < y
                · rw [decide_eq_true hy, if_pos rfl]
                  refine ⟨rfl, rfl, _, true, [x, y], rfl, rfl, fit_int _, fit_int _, ?_⟩
                  have e : ((gK [x, y] : Nat) : Int) = gg x y := by
                    show ((Nat.gcd (Nat.gcd 0 x.natAbs) y.natAbs : Nat) : Int) = _
                    rw [Nat.gcd_zero_left]
                    rfl
                  rw [eqv_int, e]
                  rw [decide_eq_true hy, Bool.true_and] at h
                  exact h
                · rw [decide_eq_false hy, if_neg Bool.false_ne_true]
                  rw [decide_eq_false hy, Bool.false_and] at h
                  exact h
              | _ => exact absurd c.2 Bool.false_ne_true
            | _ => exact absurd c.1 Bool.false_ne_true
          · have c : (intB x && intB y) = false := by simpa using c
            rw [frB_bad c] at h
            rw [c]
            exact h
    · rw [frB_len l2] at h
      rw [decide_eq_false (by omega)]
      exact h

theorem dv__law_is (T : Tx W mg) (c__law_common : Cal P w W.K mg base 1 "_law_common" s__law_common ["_law_numbers"] (spP W 1 F__law_common)) (cdv : Value) (A : Around) (env : List Env) (s : Shared) (H : Hp) (E : XK) (N0 : Addr → Prop) {f : Addr} (hr : Rg 1 (A.deeper (envOfC "_law_is" (defScope s__law_is) s.heap.objs.size f cdv))) :
    PSs (cxOf CX0 P w W.K mg base ["_law_value", "_law_item"] "_law_is" (defScope s__law_is) f cdv A env s H E).nox (defBody s__law_is) (upS ⟨W, Res.none, N0, H⟩ wr__law_is) := by
  have hu : (A.deeper (envOfC "_law_is" (defScope s__law_is) s.heap.objs.size f cdv)).units + 65 < cLine := by have := hr.room.un; omega
  have nd := sc__law_is.nd
  exact (dss_cons (ds_if (dt_pw (dw_or (dt_not (dt_val (de_isi (s := true) rfl (by rfl) T.m_isinstance boot_isinstance (de_var 0) (by rfl) T.m_tuple boot_tuple))) (dw_or1 (dt_cmp (op_neU hu) od_ne (de_callB (s := true) call_len cd_len (by rfl) T.m_len boot_len (da_cons (de_var 0) (da_nil (s := true)))) (de_int (s := true)) (nomark _))))) (dss_one (ds_ret (de_bl (s := true)))) dss_nil)
  (dss_cons (ds_if (dt_not (dt_val (de_callB (s := true) (cr_all rfl) cd_all (by rfl) T.m_all boot_all (da_cons (de_fv (df_lc (own := [("_law_item", 1)]) rfl nd (di_tup rfl (de_var 0)) (blkOk_by (by rfl)) (fun _ _ _ _ _ => (dg_name 1 nd)) (fun _ _ _ _ _ => dts_nil) (fun _ _ _ _ _ => (de_and (de_isi (s := true) rfl (by rfl) T.m_isinstance boot_isinstance (de_var 1) (by rfl) T.m_int boot_int) (de_one (de_not (de_isi (s := true) rfl (by rfl) T.m_isinstance boot_isinstance (de_var 1) (by rfl) T.m_bool boot_bool))))))) (da_nil (s := true)))))) (dss_one (ds_ret (de_bl (s := true)))) dss_nil)
  (dss_one (ds_ret (de_and (de_cmp op_gt (od_gt (s := true)) (de_ix rfl (de_var 0) (de_int (s := true)) (fun _ _ => rfl)) (de_int (s := true)) (nomark _)) (de_one (de_cmp (op_eqU hu) (od_eq (s := true)) (de_callP c__law_common rfl hr kb__law_common_1 (by decide) (by rfl) (da_cons (de_var 0) (da_nil (s := true)))) (de_int (s := true)) (nomark _))))))))
theorem ok__law_is (T : Tx W mg) (c__law_common : Cal P w W.K mg base 1 "_law_common" s__law_common ["_law_numbers"] (spP W 1 F__law_common)) {f : Addr} {fd : FuncData} (Fn : Fun W.K "_law_is" "_law_is" s__law_is f fd) : FnG P w W.K mg base CX0 2 f fd ["_law_value"] (spP W 1 F__law_is) :=
  ok_pure Fn sc__law_is (by decide) (fun ds Φ h => len__law_is h) fun cdv A env s H E N0 hr => ⟨wr__law_is, dv__law_is T c__law_common cdv A env s H E N0 hr, fun ds Φ h => sem__law_is ds Φ h⟩

def F__law_truth : FD := fun ds Φ => ∃ a b : Bool, ds = [.bool a, .bool b] ∧ Φ (.bool (a == b))
theorem len__law_truth {ds Φ} (h : F__law_truth ds Φ) : ds.length = 2 := by obtain ⟨a, b, e, _⟩ := h; rw [e]; rfl
-- slots of _law_truth: 0 _law_value, 1 _law_due
def wk__law_truth_0 : WS :=
  (wRet (wAndV (wIsi "bool" (wVar 0)) (wOp fEq (wVar 0) (wVar 1))))
def ws__law_truth : WS :=
  wk__law_truth_0
def wr__law_truth : WS :=
  (wRet (wAndV (wIsi "bool" (wVar 0)) (wOp fEq (wVar 0) (wVar 1))))

theorem sem__law_truth (ds : List PyData) (Φ : PyData → Prop) (h : F__law_truth ds Φ) : ws__law_truth (retX Φ) (ev0 2 ds) := by
  obtain ⟨a, b, rfl, h⟩ := h
  refine ⟨true, rfl, fun k q => (nomatch q), ?_⟩
  cases a <;> cases b <;> exact ⟨(by unfold Fit; simp [dOk]), (by unfold Fit; simp [dOk]), h⟩

theorem dv__law_truth (T : Tx W mg) (cdv : Value) (A : Around) (env : List Env) (s : Shared) (H : Hp) (E : XK) (N0 : Addr → Prop) {f : Addr} (hr : Rg 0 (A.deeper (envOfC "_law_truth" (defScope s__law_truth) s.heap.objs.size f cdv))) :
    PSs (cxOf CX0 P w W.K mg base ["_law_value", "_law_due"] "_law_truth" (defScope s__law_truth) f cdv A env s H E).nox (defBody s__law_truth) (upS ⟨W, Res.none, N0, H⟩ wr__law_truth) := by
  have hu : (A.deeper (envOfC "_law_truth" (defScope s__law_truth) s.heap.objs.size f cdv)).units + 65 < cLine := by have := hr.room.un; omega
  have nd := sc__law_truth.nd
  exact (dss_one (ds_ret (de_and (de_isi (s := true) rfl (by rfl) T.m_isinstance boot_isinstance (de_var 0) (by rfl) T.m_bool boot_bool) (de_one (de_cmp (op_eqU hu) (od_eq (s := true)) (de_var 0) (de_var 1) (nomark _))))))
theorem ok__law_truth (T : Tx W mg) {f : Addr} {fd : FuncData} (Fn : Fun W.K "_law_truth" "_law_truth" s__law_truth f fd) : FnG P w W.K mg base CX0 1 f fd ["_law_value", "_law_due"] (spP W 2 F__law_truth) :=
  ok_pure Fn sc__law_truth (by decide) (fun ds Φ h => len__law_truth h) fun cdv A env s H E N0 hr => ⟨wr__law_truth, dv__law_truth T cdv A env s H E N0 hr, fun ds Φ h => sem__law_truth ds Φ h⟩

def F__law_equals : FD := fun ds Φ => ∃ (q : Rat) (t b : Int), ds = [dQ q, .int t, .int b] ∧ Sz 4000 q ∧ t.natAbs < 2 ^ 9000 ∧ b.natAbs < 2 ^ 9000 ∧ Φ (.bool (decide (q.num * b = t * (q.den : Int))))
theorem len__law_equals {ds Φ} (h : F__law_equals ds Φ) : ds.length = 3 := by obtain ⟨a, b, c, e, _⟩ := h; rw [e]; rfl
-- slots of _law_equals: 0 _law_value, 1 _law_top, 2 _law_bottom
def wk__law_equals_0 : WS :=
  (wRet (wAndV (wG F__law_is 1 0 [0] (wCons (wVar 0) wNil) wNil) (wOp fEq (wOp fMul (wOp fIx (wVar 0) (wC (.int 0))) (wVar 2)) (wOp fMul (wVar 1) (wOp fIx (wVar 0) (wC (.int 1)))))))
def ws__law_equals : WS :=
  wk__law_equals_0
def wr__law_equals : WS :=
  (wRet (wAndV (wG F__law_is 1 0 [0] (wCons (wVar 0) wNil) wNil) (wOp fEq (wOp fMul (wOp fIx (wVar 0) (wC (.int 0))) (wVar 2)) (wOp fMul (wVar 1) (wOp fIx (wVar 0) (wC (.int 1)))))))

theorem odd_dQ (q : Rat) : oddOk (dQ q) := ⟨trivial, fun xs e x hx => by
  cases e
  simp only [List.mem_cons, List.not_mem_nil, or_false] at hx
  rcases hx with rfl | rfl <;> trivial⟩
theorem sem__law_equals (ds : List PyData) (Φ : PyData → Prop) (h : F__law_equals ds Φ) : ws__law_equals (retX Φ) (ev0 3 ds) := by
  obtain ⟨q, t, b, rfl, hq, ht, hb, h⟩ := h
  refine ⟨rfl, rfl, dQ q, rfl, odd_dQ q, ?_⟩
  rw [frB_dQ]
  refine ⟨_, rfl, cmulw (le4 hq.1) hb, _, rfl, cmulw ht (le4 hq.2), fit_int _, fit_int _, ?_⟩
  rw [eqv_int]
  exact h

theorem dv__law_equals (T : Tx W mg) (c__law_is : Cal P w W.K mg base 2 "_law_is" s__law_is ["_law_value"] (spP W 1 F__law_is)) (cdv : Value) (A : Around) (env : List Env) (s : Shared) (H : Hp) (E : XK) (N0 : Addr → Prop) {f : Addr} (hr : Rg 2 (A.deeper (envOfC "_law_equals" (defScope s__law_equals) s.heap.objs.size f cdv))) :
    PSs (cxOf CX0 P w W.K mg base ["_law_value", "_law_top", "_law_bottom"] "_law_equals" (defScope s__law_equals) f cdv A env s H E).nox (defBody s__law_equals) (upS ⟨W, Res.none, N0, H⟩ wr__law_equals) := by
  have hu : (A.deeper (envOfC "_law_equals" (defScope s__law_equals) s.heap.objs.size f cdv)).units + 65 < cLine := by have := hr.room.un; omega
  have nd := sc__law_equals.nd
  exact (dss_one (ds_ret (de_and (de_callP c__law_is rfl hr kb__law_is_1 (by decide) (by rfl) (da_cons (de_var 0) (da_nil (s := true)))) (de_one (de_cmp (op_eqU hu) (od_eq (s := true)) (de_op op_mulU (od_mul (s := true)) (de_ix rfl (de_var 0) (de_int (s := true)) (fun _ _ => rfl)) (de_var 2)) (de_op op_mulU (od_mul (s := true)) (de_var 1) (de_ix rfl (de_var 0) (de_int (s := true)) (fun _ _ => rfl))) (nomark _))))))
theorem ok__law_equals (T : Tx W mg) (c__law_is : Cal P w W.K mg base 2 "_law_is" s__law_is ["_law_value"] (spP W 1 F__law_is)) {f : Addr} {fd : FuncData} (Fn : Fun W.K "_law_equals" "_law_equals" s__law_equals f fd) : FnG P w W.K mg base CX0 3 f fd ["_law_value", "_law_top", "_law_bottom"] (spP W 3 F__law_equals) :=
  ok_pure Fn sc__law_equals (by decide) (fun ds Φ h => len__law_equals h) fun cdv A env s H E N0 hr => ⟨wr__law_equals, dv__law_equals T c__law_is cdv A env s H E N0 hr, fun ds Φ h => sem__law_equals ds Φ h⟩

def F__law_turn : FD := fun ds Φ => ∃ o : Option Rat, ds = [dE o] ∧ Φ (dE (negE o))
theorem len__law_turn {ds Φ} (h : F__law_turn ds Φ) : ds.length = 1 := by obtain ⟨a, e, _⟩ := h; rw [e]; rfl
-- slots of _law_turn: 0 _law_end_here
def wk__law_turn_0 : WS :=
  (wRet (wTup (wCons (wOp fSub (wC (.int 0)) (wOp fIx (wVar 0) (wC (.int 0)))) (wCons (wOp fIx (wVar 0) (wC (.int 1))) wNil))))
def wk__law_turn_1 : WS :=
  (wSq (wIf (wTest (wOp fIs (wVar 0) (wC .none)))
  (wRet (wC .none))
  wNx)
  wk__law_turn_0)
def ws__law_turn : WS :=
  wk__law_turn_1
def wr__law_turn : WS :=
  (wSq (wIf (wTest (wOp fIs (wVar 0) (wC .none)))
  (wRet (wC .none))
  wNx)
  (wRet (wTup (wCons (wOp fSub (wC (.int 0)) (wOp fIx (wVar 0) (wC (.int 0)))) (wCons (wOp fIx (wVar 0) (wC (.int 1))) wNil)))))

theorem sem__law_turn (ds : List PyData) (Φ : PyData → Prop) (h : F__law_turn ds Φ) : ws__law_turn (retX Φ) (ev0 1 ds) := by
  obtain ⟨o, rfl, h⟩ := h
  cases o with
  | none => exact h
  | some q =>
    refine ⟨_, rfl, _, rfl, (by decide : 2 ≤ 100000), ?_⟩
    show Φ (.tuple [.int (0 - q.num), .int q.den])
    rw [Int.zero_sub]
    exact h

theorem dv__law_turn (T : Tx W mg) (cdv : Value) (A : Around) (env : List Env) (s : Shared) (H : Hp) (E : XK) (N0 : Addr → Prop) {f : Addr} (hr : Rg 0 (A.deeper (envOfC "_law_turn" (defScope s__law_turn) s.heap.objs.size f cdv))) :
    PSs (cxOf CX0 P w W.K mg base ["_law_end_here"] "_law_turn" (defScope s__law_turn) f cdv A env s H E).nox (defBody s__law_turn) (upS ⟨W, Res.none, N0, H⟩ wr__law_turn) := by
  have hu : (A.deeper (envOfC "_law_turn" (defScope s__law_turn) s.heap.objs.size f cdv)).units + 65 < cLine := by have := hr.room.un; omega
  have nd := sc__law_turn.nd
  exact (dss_cons (ds_if (dt_cmp op_isU od_is (de_var 0) (de_non (s := true)) (nomark _)) (dss_one (ds_ret (de_non (s := true)))) dss_nil)
  (dss_one (ds_ret (de_tup (da_cons (de_op op_sub (od_sub (s := true)) (de_int (s := true)) (de_ix rfl (de_var 0) (de_int (s := true)) (fun _ _ => rfl))) (da_cons (de_ix rfl (de_var 0) (de_int (s := true)) (fun _ _ => rfl)) (da_nil (s := true))))))))
theorem ok__law_turn (T : Tx W mg) {f : Addr} {fd : FuncData} (Fn : Fun W.K "_law_turn" "_law_turn" s__law_turn f fd) : FnG P w W.K mg base CX0 1 f fd ["_law_end_here"] (spP W 1 F__law_turn) :=
  ok_pure Fn sc__law_turn (by decide) (fun ds Φ h => len__law_turn h) fun cdv A env s H E N0 hr => ⟨wr__law_turn, dv__law_turn T cdv A env s H E N0 hr, fun ds Φ h => sem__law_turn ds Φ h⟩

structure Way (L R : Fr2) : Prop where
  l1 : 0 ≤ L.1
  l2 : 1 ≤ L.2
  r1 : 1 ≤ R.1
  r2 : 0 ≤ R.2
  det : R.1 * L.2 - L.1 * R.2 = 1
def midF (L R : Fr2) : Fr2 := (L.1 + R.1, L.2 + R.2)
theorem Way.mid {L R : Fr2} (h : Way L R) {a b : Int} (h1 : L.1 * b < a * L.2) (h2 : a * R.2 < R.1 * b) : (midF L R).1 ≤ a ∧ (midF L R).2 ≤ b := by
  obtain ⟨l1, l2, r1, r2, d⟩ := h
  have ea : R.1 * (a * L.2 - L.1 * b) + L.1 * (R.1 * b - a * R.2) = a := by grind
  have eb : R.2 * (a * L.2 - L.1 * b) + L.2 * (R.1 * b - a * R.2) = b := by grind
  have m1 : 1 ≤ a * L.2 - L.1 * b := by omega
  have n1 : 1 ≤ R.1 * b - a * R.2 := by omega
  have p1 : R.1 * 1 ≤ R.1 * (a * L.2 - L.1 * b) := Int.mul_le_mul_of_nonneg_left m1 (by omega)
  have p2 : L.1 * 1 ≤ L.1 * (R.1 * b - a * R.2) := Int.mul_le_mul_of_nonneg_left n1 l1
  have p3 : R.2 * 1 ≤ R.2 * (a * L.2 - L.1 * b) := Int.mul_le_mul_of_nonneg_left m1 r2
  have p4 : L.2 * 1 ≤ L.2 * (R.1 * b - a * R.2) := Int.mul_le_mul_of_nonneg_left n1 (by omega)
  exact ⟨by show L.1 + R.1 ≤ a; omega, by show L.2 + R.2 ≤ b; omega⟩
theorem Way.gcd {L R : Fr2} (h : Way L R) : Nat.gcd (midF L R).1.natAbs (midF L R).2.natAbs = 1 := by
  have d := h.det
  -- the two lie as near as can be
  have k1 : ((Nat.gcd (midF L R).1.natAbs (midF L R).2.natAbs : Nat) : Int) ∣ (midF L R).1 := Int.ofNat_dvd_left.mpr (Nat.gcd_dvd_left _ _)
  have k2 : ((Nat.gcd (midF L R).1.natAbs (midF L R).2.natAbs : Nat) : Int) ∣ (midF L R).2 := Int.ofNat_dvd_left.mpr (Nat.gcd_dvd_right _ _)
  generalize Nat.gcd (midF L R).1.natAbs (midF L R).2.natAbs = g at k1 k2 ⊢
  have e : (midF L R).1 * L.2 - L.1 * (midF L R).2 = 1 := by
    show (L.1 + R.1) * L.2 - L.1 * (L.2 + R.2) = 1
    grind
  have k3 : (g : Int) ∣ 1 := by
    rw [← e]
    exact Int.dvd_sub (Int.dvd_mul_of_dvd_left k1) (Int.dvd_mul_of_dvd_right k2)
  have k4 : g ∣ 1 := by exact_mod_cast k3
  exact Nat.dvd_one.mp k4
theorem Way.good {L R : Fr2} (h : Way L R) : dF (midF L R) = dQ (vF (midF L R)) := Good_q (by have := h.l2; have := h.r2; show 0 < L.2 + R.2; omega) h.gcd
/-- what is asked of the ends about a fraction f -/
structure Btw (f l : Rat) (h : Option Rat) : Prop where
  lo : 0 < l
  le : l ≤ f
  hi : ∀ r, h = some r → f ≤ r
  ls : ∀ x : Rat, InR (some l) h x → f.num ≤ x.num ∧ f.den ≤ x.den
theorem Btw.inr {f l : Rat} {h : Option Rat} (b : Btw f l h) : InR (some l) h f := ⟨fun l' e => by cases e; exact b.le, b.hi⟩
theorem Btw.pos {f l : Rat} {h : Option Rat} (b : Btw f l h) : 0 < f := by have := b.lo; have := b.le; grind
theorem rat_ext {a b : Rat} (h1 : a.num = b.num) (h2 : a.den = b.den) : a = b := Rat.ext h1 h2
theorem Btw.uniq {f l : Rat} {h : Option Rat} (b : Btw f l h) {q : Rat} (i : InR (some l) h q) (ls : LeastR (some l) h q) : q = f := by
  obtain ⟨a1, a2⟩ := b.ls q i
  obtain ⟨b1, b2⟩ := ls f b.inr
  have fp := Rat_num_pos b.pos
  exact rat_ext (by omega) (by omega)
theorem Btw.turned {f l : Rat} {h : Option Rat} (b : Btw f l h) {q : Rat} (i : InR (negE h) (some (-l)) q) (ls : LeastR (negE h) (some (-l)) q) : q = -f := by
  have e := b.uniq (q := -q) ⟨fun l' e => by cases e; have := i.hi (-l) rfl; grind, fun r e => by have := i.lo (-r) (by rw [e]; rfl); grind⟩ (least_neg (lo := some l) (hi := h) ls)
  rw [← e, Rat.neg_neg]
theorem zero_uniq {lo hi : Option Rat} (z : InR lo hi 0) {q : Rat} (ls : LeastR lo hi q) : q = 0 := by
  have h : q.num.natAbs ≤ (0 : Rat).num.natAbs := (ls 0 z).1
  have e : q.num = 0 := by
    have : (0 : Rat).num.natAbs = 0 := rfl
    omega
  exact Rat.num_eq_zero.mp e
/-- the ends that are drawn -/
def endX (a b : Int) (m s : Fr2) : Fr2 := (a * m.1 + b * s.1, a * m.2 + b * s.2)
theorem le_vF {x : Fr2} (h : 0 < x.2) (q : Rat) : vF x ≤ q ↔ x.1 * (q.den : Int) ≤ q.num * x.2 := by
  have := Rat_le_div (a := x) (b := cF q) h (den_pos q)
  rw [vF_cF] at this
  exact this
theorem vF_le {x : Fr2} (h : 0 < x.2) (q : Rat) : q ≤ vF x ↔ q.num * x.2 ≤ x.1 * (q.den : Int) := by
  have := Rat_le_div (a := cF q) (b := x) (den_pos q) h
  rw [vF_cF] at this
  exact this
theorem Way.btw {L R : Fr2} (w : Way L R) {a b c d : Int} (ha : 1 ≤ a) (hb : 0 ≤ b) (hc : 1 ≤ c) (hd : 0 ≤ d) {h : Option Rat} (hh : h = some (vF (endX c d (midF L R) R)) ∨ (h = none ∧ R.2 = 0)) :
    Btw (vF (midF L R)) (vF (endX a b (midF L R) L)) h := by
  obtain ⟨l1, l2, r1, r2, det⟩ := id w
  have m1 : 1 ≤ (midF L R).1 := by show 1 ≤ L.1 + R.1; omega
  have m2 : 1 ≤ (midF L R).2 := by show 1 ≤ L.2 + R.2; omega
  have e1 : (midF L R).1 = L.1 + R.1 := rfl
  have e2 : (midF L R).2 = L.2 + R.2 := rfl
  generalize hm : midF L R = M at m1 m2 e1 e2 hh ⊢
  have pos : ∀ {a b : Int} {s : Fr2}, 1 ≤ a → 0 ≤ b → 0 ≤ s.1 → 0 ≤ s.2 → 0 < (endX a b M s).1 ∧ 0 < (endX a b M s).2 := fun {a b s} ha hb h1 h2 => by
    have p1 : 0 < a * M.1 := Int.mul_pos (by omega) (by omega)
    have p2 : 0 < a * M.2 := Int.mul_pos (by omega) (by omega)
    have p3 : 0 ≤ b * s.1 := Int.mul_nonneg hb h1
    have p4 : 0 ≤ b * s.2 := Int.mul_nonneg hb h2
    exact ⟨by show 0 < a * M.1 + b * s.1; omega, by show 0 < a * M.2 + b * s.2; omega⟩
  obtain ⟨X1, Y1⟩ := pos ha hb l1 (show 0 ≤ L.2 by omega)
  obtain ⟨X2, Y2⟩ := pos hc hd (show 0 ≤ R.1 by omega) r2
  have lowE : (endX a b M L).1 * L.2 = L.1 * (endX a b M L).2 + a := by
    show (a * M.1 + b * L.1) * L.2 = L.1 * (a * M.2 + b * L.2) + a
    grind
  have highE : R.1 * (endX c d M R).2 = (endX c d M R).1 * R.2 + c := by
    show R.1 * (c * M.2 + d * R.2) = (c * M.1 + d * R.1) * R.2 + c
    grind
  generalize hX : endX a b M L = X at X1 Y1 lowE ⊢
  generalize hZ : endX c d M R = Z at X2 Y2 highE hh
  have lowLe : X.1 * M.2 ≤ M.1 * X.2 := by
    have k : 0 ≤ b * (R.1 * L.2 - L.1 * R.2) := Int.mul_nonneg hb (by omega)
    have e : M.1 * X.2 - X.1 * M.2 = b * (R.1 * L.2 - L.1 * R.2) := by
      rw [← hX]
      show M.1 * (a * M.2 + b * L.2) - (a * M.1 + b * L.1) * M.2 = _
      grind
    omega
  have highLe : M.1 * Z.2 ≤ Z.1 * M.2 := by
    have k : 0 ≤ d * (R.1 * L.2 - L.1 * R.2) := Int.mul_nonneg hd (by omega)
    have e : Z.1 * M.2 - M.1 * Z.2 = d * (R.1 * L.2 - L.1 * R.2) := by
      rw [← hZ]
      show (c * M.1 + d * R.1) * M.2 - M.1 * (c * M.2 + d * R.2) = _
      grind
    omega
  have good := w.good
  rw [hm] at good
  have gE := dF_inj good
  have n1 : (vF M).num = M.1 := by conv => rhs; rw [gE]
                                   rfl
  have n2 : ((vF M).den : Int) = M.2 := by conv => rhs; rw [gE]
                                           rfl
  refine ⟨?_, (Rat_le_div Y1 (by omega)).mpr lowLe, fun r e => ?_, fun x hx => ?_⟩
  · have z := le_vF (x := (0, 1)) (by decide) (vF X)
    have p : 0 < (vF X).num := by
      have q : 0 ≤ vF X := by
        have := (Rat_le_div (a := (0, 1)) (b := X) (by decide) Y1).mpr (by show 0 * X.2 ≤ X.1 * 1; omega)
        have e0 : vF (0, 1) = 0 := by rfl
        rw [e0] at this
        exact this
      have e := cF_div (t := X.1) Y1
      have e3 : (vF X).num = X.1.fdiv (gg X.1 X.2) := congrArg Prod.fst e
      have g0 := gg_pos (t := X.1) Y1
      obtain ⟨k, hk⟩ := (gg_dvd X.1 X.2).1
      rw [e3, Int.fdiv_eq_ediv_of_nonneg _ (by omega)]
      have : 0 < k := by
        rcases Int.lt_or_le 0 k with y | y
        · exact y
        · have : gg X.1 X.2 * k ≤ gg X.1 X.2 * 0 := Int.mul_le_mul_of_nonneg_left y (by omega)
          omega
      conv => rhs; lhs; rw [hk]
      rw [Int.mul_ediv_cancel_left _ (by omega)]
      exact this
    exact (Rat.lt_iff 0 (vF X)).mpr (by simpa using p)
  · rcases hh with hh | ⟨hh, _⟩
    · rw [hh] at e
      cases e
      exact (Rat_le_div (by omega) Y2).mpr highLe
    · rw [hh] at e
      cases e
  · have bp := den_pos x
    have a1 : X.1 * (x.den : Int) ≤ x.num * X.2 := (le_vF Y1 x).mp (hx.lo _ rfl)
    have b1 : L.1 * (x.den : Int) < x.num * L.2 := by
      have c1 : X.1 * (x.den : Int) * L.2 ≤ x.num * X.2 * L.2 := Int.mul_le_mul_of_nonneg_right a1 (by omega)
      have c2 : X.1 * (x.den : Int) * L.2 = (L.1 * X.2 + a) * (x.den : Int) := by rw [← lowE]; grind
      have c3 : 0 < a * (x.den : Int) := Int.mul_pos (by omega) bp
      have c4 : L.1 * (x.den : Int) * X.2 < x.num * L.2 * X.2 := by
        have d1 : (L.1 * X.2 + a) * (x.den : Int) = L.1 * (x.den : Int) * X.2 + a * (x.den : Int) := by grind
        have d2 : x.num * X.2 * L.2 = x.num * L.2 * X.2 := by grind
        omega
      exact Int.lt_of_mul_lt_mul_right c4 (by omega)
    have b2 : x.num * R.2 < R.1 * (x.den : Int) := by
      rcases hh with hh | ⟨hh, h0⟩
      · have a2 : x.num * Z.2 ≤ Z.1 * (x.den : Int) := (vF_le Y2 x).mp (hx.hi _ hh)
        have c1 : x.num * Z.2 * R.2 ≤ Z.1 * (x.den : Int) * R.2 := Int.mul_le_mul_of_nonneg_right a2 r2
        have c3 : 0 < c * (x.den : Int) := Int.mul_pos (by omega) bp
        have c2 : Z.1 * (x.den : Int) * R.2 = R.1 * (x.den : Int) * Z.2 - c * (x.den : Int) := by
          have : Z.1 * R.2 = R.1 * Z.2 - c := by omega
          grind
        have d2 : x.num * Z.2 * R.2 = x.num * R.2 * Z.2 := by grind
        have c4 : x.num * R.2 * Z.2 < R.1 * (x.den : Int) * Z.2 := by omega
        exact Int.lt_of_mul_lt_mul_right c4 (by omega)
      · rw [h0, Int.mul_zero]
        exact Int.mul_pos (by omega) bp
    obtain ⟨g1, g2⟩ := w.mid b1 b2
    rw [hm] at g1 g2
    exact ⟨by rw [n1]; exact g1, by omega⟩

def WaySz (n : Nat) (L R : Fr2) : Prop := L.1 ≤ 1001 ^ n ∧ L.2 ≤ 1001 ^ n ∧ R.1 ≤ 1001 ^ n ∧ R.2 ≤ 1001 ^ n
def F__law_way : FD := fun ds Φ => ds = [] ∧ ∀ L R, Way L R → WaySz 6 L R → Φ (.tuple [dF (midF L R), dF L, dF R])
theorem len__law_way {ds Φ} (h : F__law_way ds Φ) : ds.length + 1 = 1 := by obtain ⟨e, _⟩ := h; rw [e]; rfl
-- slots of _law_way: 0 _law_box_here, 1 _law_left, 2 _law_right, 3 _law_some, 4 _law_k, 5 _law_run
def wk__law_way_0 : WS :=
  (wSet 1 (wTup (wCons (wOp fAdd (wOp fIx (wVar 1) (wC (.int 0))) (wOp fMul (wVar 5) (wOp fIx (wVar 2) (wC (.int 0))))) (wCons (wOp fAdd (wOp fIx (wVar 1) (wC (.int 1))) (wOp fMul (wVar 5) (wOp fIx (wVar 2) (wC (.int 1))))) wNil))))
def wk__law_way_1 : WS :=
  (wSet 2 (wTup (wCons (wOp fAdd (wOp fIx (wVar 2) (wC (.int 0))) (wOp fMul (wVar 5) (wOp fIx (wVar 1) (wC (.int 0))))) (wCons (wOp fAdd (wOp fIx (wVar 2) (wC (.int 1))) (wOp fMul (wVar 5) (wOp fIx (wVar 1) (wC (.int 1))))) wNil))))
def wk__law_way_2 : WS :=
  (wIf (wTest (wOp fEq (wOp fMod (wCall fInt (wCons (wVar 4) wNil)) (wC (.int 2))) (wC (.int 0))))
  wk__law_way_0
  wk__law_way_1)
def wk__law_way_3 : WS :=
  (wSq (wSet 5 (wOp fAdd (wC (.int 1)) (wGR 0 F__law_take 2 (wCons (wOp fIx (wLst (wCons (wC (.int 8)) (wCons (wC (.int 1000)) wNil))) (wCall fInt (wCons (wAndV (wOp fEq (wVar 4) (wC (.int 0))) (wOp fEq (wGR 0 F__law_take 2 (wCons (wC (.int 4)) wNil)) (wC (.int 0)))) wNil))) wNil))))
  wk__law_way_2)
def wk__law_way_4 : WS :=
  (wRet (wTup (wCons (wTup (wCons (wOp fAdd (wOp fIx (wVar 1) (wC (.int 0))) (wOp fIx (wVar 2) (wC (.int 0)))) (wCons (wOp fAdd (wOp fIx (wVar 1) (wC (.int 1))) (wOp fIx (wVar 2) (wC (.int 1)))) wNil))) (wCons (wVar 1) (wCons (wVar 2) wNil)))))
def wk__law_way_5 : WS :=
  (wSq (wForN 8 (wRng1 (wCons (wVar 3) wNil)) (gN 4)
  wk__law_way_3)
  wk__law_way_4)
def wk__law_way_6 : WS :=
  (wSq (wPars [1, 2, 3] (wEd (wTup (wCons (wC (.int 0)) (wCons (wC (.int 1)) wNil))) (wEd (wTup (wCons (wC (.int 1)) (wCons (wC (.int 0)) wNil))) (wEd (wGR 0 F__law_take 2 (wCons (wC (.int 6)) wNil)) wEn))))
  wk__law_way_5)
def ws__law_way : WS :=
  wk__law_way_6
def wr__law_way : WS :=
  (wSq (wPars [1, 2, 3] (wEd (wTup (wCons (wC (.int 0)) (wCons (wC (.int 1)) wNil))) (wEd (wTup (wCons (wC (.int 1)) (wCons (wC (.int 0)) wNil))) (wEd (wGR 0 F__law_take 2 (wCons (wC (.int 6)) wNil)) wEn))))
  (wSq (wForN 8 (wRng1 (wCons (wVar 3) wNil)) (gN 4)
  (wSq (wSet 5 (wOp fAdd (wC (.int 1)) (wGR 0 F__law_take 2 (wCons (wOp fIx (wLst (wCons (wC (.int 8)) (wCons (wC (.int 1000)) wNil))) (wCall fInt (wCons (wAndV (wOp fEq (wVar 4) (wC (.int 0))) (wOp fEq (wGR 0 F__law_take 2 (wCons (wC (.int 4)) wNil)) (wC (.int 0)))) wNil))) wNil))))
  (wIf (wTest (wOp fEq (wOp fMod (wCall fInt (wCons (wVar 4) wNil)) (wC (.int 2))) (wC (.int 0))))
  (wSet 1 (wTup (wCons (wOp fAdd (wOp fIx (wVar 1) (wC (.int 0))) (wOp fMul (wVar 5) (wOp fIx (wVar 2) (wC (.int 0))))) (wCons (wOp fAdd (wOp fIx (wVar 1) (wC (.int 1))) (wOp fMul (wVar 5) (wOp fIx (wVar 2) (wC (.int 1))))) wNil))))
  (wSet 2 (wTup (wCons (wOp fAdd (wOp fIx (wVar 2) (wC (.int 0))) (wOp fMul (wVar 5) (wOp fIx (wVar 1) (wC (.int 0))))) (wCons (wOp fAdd (wOp fIx (wVar 2) (wC (.int 1))) (wOp fMul (wVar 5) (wOp fIx (wVar 1) (wC (.int 1))))) wNil)))))))
  (wRet (wTup (wCons (wTup (wCons (wOp fAdd (wOp fIx (wVar 1) (wC (.int 0))) (wOp fIx (wVar 2) (wC (.int 0)))) (wCons (wOp fAdd (wOp fIx (wVar 1) (wC (.int 1))) (wOp fIx (wVar 2) (wC (.int 1)))) wNil))) (wCons (wVar 1) (wCons (wVar 2) wNil)))))))

theorem Way.left {L R : Fr2} (w : Way L R) {k : Int} (hk : 0 ≤ k) : Way (L.1 + k * R.1, L.2 + k * R.2) R := by
  obtain ⟨l1, l2, r1, r2, d⟩ := w
  have p1 : 0 ≤ k * R.1 := Int.mul_nonneg hk (by omega)
  have p2 : 0 ≤ k * R.2 := Int.mul_nonneg hk r2
  exact ⟨by show 0 ≤ L.1 + k * R.1; omega, by show 1 ≤ L.2 + k * R.2; omega, r1, r2, by show R.1 * (L.2 + k * R.2) - (L.1 + k * R.1) * R.2 = 1; grind⟩
theorem Way.right {L R : Fr2} (w : Way L R) {k : Int} (hk : 0 ≤ k) : Way L (R.1 + k * L.1, R.2 + k * L.2) := by
  obtain ⟨l1, l2, r1, r2, d⟩ := w
  have p1 : 0 ≤ k * L.1 := Int.mul_nonneg hk l1
  have p2 : 0 ≤ k * L.2 := Int.mul_nonneg hk (by omega)
  exact ⟨l1, l2, by show 1 ≤ R.1 + k * L.1; omega, by show 0 ≤ R.2 + k * L.2; omega, by show (R.1 + k * L.1) * L.2 - L.1 * (R.2 + k * L.2) = 1; grind⟩
theorem run_le {n : Nat} {x y k : Int} (hx : x ≤ 1001 ^ n) (hy : y ≤ 1001 ^ n) (hy0 : 0 ≤ y) (hk : k ≤ 1000) : x + k * y ≤ 1001 ^ (n + 1) := by
  have : k * y ≤ 1000 * y := Int.mul_le_mul_of_nonneg_right hk hy0
  have e : (1001 : Int) ^ (n + 1) = 1001 ^ n * 1001 := Int.pow_succ _ _
  omega
theorem up_le {n : Nat} {x : Int} (hx : x ≤ 1001 ^ n) : x ≤ 1001 ^ (n + 1) := by
  have e : (1001 : Int) ^ (n + 1) = 1001 ^ n * 1001 := Int.pow_succ _ _
  have : (0 : Int) ≤ 1001 ^ n := Int.pow_nonneg (by decide)
  omega
theorem WaySz.mono {m n : Nat} {L R : Fr2} (h : WaySz m L R) (k : m ≤ n) : WaySz n L R := by
  induction k with
  | refl => exact h
  | step _ ih => exact ⟨up_le ih.1, up_le ih.2.1, up_le ih.2.2.1, up_le ih.2.2.2⟩
theorem sz_small {n : Nat} {x : Int} (h0 : 0 ≤ x) (hx : x ≤ 1001 ^ n) (hn : n ≤ 10) : x.natAbs < 2 ^ 200 := by
  have h1 : (1001 : Int) ^ n ≤ 1001 ^ 10 := by
    have e : n + (10 - n) = 10 := by omega
    rw [← e, Int.pow_add]
    have p : (1 : Int) ≤ 1001 ^ (10 - n) := by
      have := Int.pow_pos (n := 1001) (m := 10 - n) (by decide)
      omega
    have : (1001 : Int) ^ n * 1 ≤ 1001 ^ n * 1001 ^ (10 - n) := Int.mul_le_mul_of_nonneg_left p (Int.pow_nonneg (by decide))
    omega
  have h2 : (1001 : Int) ^ 10 < 2 ^ 150 := by decide
  have h3 : x.natAbs < 2 ^ 150 := by omega
  exact Nat.lt_of_lt_of_le h3 (p2 (by decide))
theorem sem__law_way (ds : List PyData) (Φ : PyData → Prop) (h : F__law_way ds Φ) : ws__law_way (retX Φ) (ev1 6 ds) := by
  obtain ⟨rfl, h⟩ := h
  refine sq ⟨(by decide : 2 ≤ 100000), (by decide : 2 ≤ 100000), rfl, 6, rfl, by decide, by decide, fun s s0 s1 => ⟨rfl, ⟨(by decide : 3 ≤ 100000), fun j hj => ?_⟩, ?_⟩⟩
  · have : j = 1 ∨ j = 2 ∨ j = 3 := by simpa using hj
    show j < 6
    omega
  show wk__law_way_5 (retX Φ) [.m, .d (dF (0, 1)), .d (dF (1, 0)), .d (.int s), .u, .u]
  have ls : (intsFrom 0 s.toNat).length ≤ 6 := by rw [intsFrom_len]; omega
  refine sq (for_allN (ds := intsFrom 0 s.toNat) (fun i ρ => ∃ (L R : Fr2) (x y : Ent), ρ = [.m, .d (dF L), .d (dF R), .d (.int s), x, y] ∧ Way L R ∧ WaySz i L R) (fun Ψ h => ⟨by omega, by omega, h⟩) (by omega) ⟨(0, 1), (1, 0), .u, .u, rfl, ⟨by decide, by decide, by decide, by decide, by decide⟩, ⟨by decide, by decide, by decide, by decide⟩⟩ (fun i d ρ2 hd hj => ?_) fun ρ2 hj => ?_)
  · obtain ⟨L, R, x, y, rfl, w, z⟩ := hj
    obtain rfl := intsFrom_get hd
    have hi : i < 6 := Nat.lt_of_lt_of_le (List.getElem?_eq_some_iff.mp hd).1 ls
    rw [Int.zero_add]
    -- the run's length
    have run : ∀ (Ψ : PyData → Prop), (∀ k : Int, 1 ≤ k → k ≤ 1000 → Ψ (.int k)) → (wOp fAdd (wC (.int 1)) (wGR 0 F__law_take 2 (wCons (wOp fIx (wLst (wCons (wC (.int 8)) (wCons (wC (.int 1000)) wNil))) (wCall fInt (wCons (wAndV (wOp fEq (wVar 4) (wC (.int 0))) (wOp fEq (wGR 0 F__law_take 2 (wCons (wC (.int 4)) wNil)) (wC (.int 0)))) wNil))) wNil))) [.m, .d (dF L), .d (dF R), .d (.int s), .d (.int (i : Int)), y] Ψ := by
      intro Ψ hΨ
      have last : ∀ j m : Int, (j = 0 ∧ m = 8 ∨ j = 1 ∧ m = 1000) → (fIx (.list [.int 8, .int 1000]) (.int j) fun d => F__law_take [d] fun d => fAdd (.int 1) d Ψ) := by
        rintro j m (⟨rfl, rfl⟩ | ⟨rfl, rfl⟩)
        · exact ⟨_, rfl, 8, rfl, by decide, by decide, fun r r0 r1 => hΨ _ (by omega) (by omega)⟩
        · exact ⟨_, rfl, 1000, rfl, by decide, by decide, fun r r0 r1 => hΨ _ (by omega) (by omega)⟩
      have last' : ∀ b : Bool, (fIx (.list [.int 8, .int 1000]) (.int (if b then 1 else 0)) fun d => (1 + 1 = 2) ∧ F__law_take [d] fun d => fAdd (.int 1) d Ψ) := by
        intro b
        cases b with
        | true =>
          obtain ⟨d, e, f⟩ := last 1 1000 (.inr ⟨rfl, rfl⟩)
          exact ⟨d, e, rfl, f⟩
        | false =>
          obtain ⟨d, e, f⟩ := last 0 8 (.inl ⟨rfl, rfl⟩)
          exact ⟨d, e, rfl, f⟩
      refine ⟨(by decide : 2 ≤ 100000), fit_int _, fit_int _, ?_⟩
      rw [eqv_int]
      show (if decide ((i : Int) = 0) = true then _ else _)
      by_cases c : (i : Int) = 0
      · rw [decide_eq_true c, if_pos rfl]
        refine ⟨rfl, 4, rfl, by decide, by decide, fun r r0 r1 => ⟨fit_int _, fit_int _, ?_⟩⟩
        exact last' _
      · rw [decide_eq_false c, if_neg Bool.false_ne_true]
        exact last' false
    refine ⟨(by decide : 4 < 6), sq (run _ fun k k1 k2 => ?_)⟩
    have kb : k.natAbs < 2 ^ 9000 := sml (Nat.lt_of_lt_of_le (show _ < 2 ^ 64 by omega) (p2 (by decide)))
    have w0 := w.l1
    have w1 := w.l2
    have w2 := w.r1
    have w3 := w.r2
    have b1 := sml (sz_small w0 z.1 (by omega))
    have b2 := sml (sz_small (by omega) z.2.1 (by omega))
    have b3 := sml (sz_small (by omega) z.2.2.1 (by omega))
    have b4 := sml (sz_small w3 z.2.2.2 (by omega))
    show wk__law_way_2 _ [.m, .d (dF L), .d (dF R), .d (.int s), .d (.int (i : Int)), .d (.int k)]
    refine ⟨(by decide : (2 : Int) ≠ 0), fit_int _, fit_int _, ?_⟩
    rw [eqv_int]
    by_cases c : (i : Int).fmod 2 = 0
    · rw [decide_eq_true c]
      exact ⟨_, rfl, _, rfl, cmulw kb b3, _, rfl, _, rfl, cmulw kb b4, (by decide : 2 ≤ 100000), (L.1 + k * R.1, L.2 + k * R.2), R, _, _, rfl, w.left (by omega), run_le z.1 z.2.2.1 (by omega) k2, run_le z.2.1 z.2.2.2 w3 k2, up_le z.2.2.1, up_le z.2.2.2⟩
    · rw [decide_eq_false c]
      exact ⟨_, rfl, _, rfl, cmulw kb b1, _, rfl, _, rfl, cmulw kb b2, (by decide : 2 ≤ 100000), L, (R.1 + k * L.1, R.2 + k * L.2), _, _, rfl, w.right (by omega), up_le z.1, up_le z.2.1, run_le z.2.2.1 z.1 w0 k2, run_le z.2.2.2 z.2.1 (by omega) k2⟩
  · obtain ⟨L, R, x, y, rfl, w, z⟩ := hj
    exact ⟨_, rfl, _, rfl, _, rfl, _, rfl, (by decide : 2 ≤ 100000), (by decide : 3 ≤ 100000), h L R w (z.mono (by omega))⟩

theorem dv__law_way (T : Tx W mg) (c__law_take : Cal P w W.K mg base 1 "_law_take" s__law_take ["_law_box_here", "_law_many"] (spN W RR 1 2 F__law_take)) (cdv : Value) (A : Around) (env : List Env) (s : Shared) (H : Hp) (E : XK) (N0 : Addr → Prop) (b c : Addr) {f : Addr} (hr : Rg 1 (A.deeper (envOfC "_law_way" (defScope s__law_way) s.heap.objs.size f cdv))) :
    PSs (cxOf CX0 P w W.K mg base ["_law_box_here", "_law_left", "_law_right", "_law_some", "_law_k", "_law_run"] "_law_way" (defScope s__law_way) f cdv A env s H E).nox (defBody s__law_way) (uS ⟨W, RR b c, N0, H⟩ 17 wr__law_way) := by
  have hu : (A.deeper (envOfC "_law_way" (defScope s__law_way) s.heap.objs.size f cdv)).units + 65 < cLine := by have := hr.room.un; omega
  have nd := sc__law_way.nd
  exact (nss_le (nss_cons (ns_par3 1 2 3 rfl nd (np_d (ne_lift fun _ => (de_tup (da_cons (de_int (s := true)) (da_cons (de_int (s := true)) (da_nil (s := true)))))) (np_d (ne_lift fun _ => (de_tup (da_cons (de_int (s := true)) (da_cons (de_int (s := true)) (da_nil (s := true)))))) (np_d (ne_callR 0 c__law_take rfl rfl hr (kb__law_take_2) (by decide) (by rfl) (na_lift fun _ => (da_cons (de_int (s := true)) (da_nil (s := true))))) np_nil))))
  (nss_cons (ns_for 8 PassesOwn.never rfl (ni_lift fun _ => (di_rng1 (by rfl) T.m_range (da_cons (de_var 3) (da_nil (s := true))))) (ng_lift fun _ => (dg_name 4 nd)) (nss_cons (ns_set 5 nd (ne_op op_addU (fun _ => od_add (s := true)) (ne_lift fun _ => (de_int (s := true))) (ne_callR 0 c__law_take rfl rfl hr (kb__law_take_2) (by decide) (by rfl) (na_cons (ne_ix rfl (ne_lift fun _ => (de_lst (da_cons (de_int (s := true)) (da_cons (de_int (s := true)) (da_nil (s := true)))))) (ne_callT (s := true) call_int1 (fun _ => cd_int) (by rfl) T.m_int boot_int (na_cons (ne_and (ne_lift fun _ => (de_cmp (op_eqU hu) (od_eq (s := true)) (de_var 4) (de_int (s := true)) (nomark _))) (ne_one (ne_cmp (op_eqU hu) (fun _ => od_eq (s := true)) (ne_callR 0 c__law_take rfl rfl hr (kb__law_take_2) (by decide) (by rfl) (na_lift fun _ => (da_cons (de_int (s := true)) (da_nil (s := true))))) (ne_lift fun _ => (de_int (s := true))) (nomark _)))) (na_lift fun _ => da_nil (s := true)))) (fun _ _ => rfl)) (na_lift fun _ => da_nil (s := true))))))
  (nss_one (ns_lift fun _ => (ds_if (dt_cmp (op_eqU hu) od_eq (de_op op_modN (od_mod (s := true)) (de_callT (s := true) call_int1 cd_int (by rfl) T.m_int boot_int (da_cons (de_var 4) (da_nil (s := true)))) (de_int (s := true))) (de_int (s := true)) (nomark _)) (dss_one (ds_set 1 nd (de_tup (da_cons (de_op op_addU (od_add (s := true)) (de_ix rfl (de_var 1) (de_int (s := true)) (fun _ _ => rfl)) (de_op op_mulU (od_mul (s := true)) (de_var 5) (de_ix rfl (de_var 2) (de_int (s := true)) (fun _ _ => rfl)))) (da_cons (de_op op_addU (od_add (s := true)) (de_ix rfl (de_var 1) (de_int (s := true)) (fun _ _ => rfl)) (de_op op_mulU (od_mul (s := true)) (de_var 5) (de_ix rfl (de_var 2) (de_int (s := true)) (fun _ _ => rfl)))) (da_nil (s := true))))))) (dss_one (ds_set 2 nd (de_tup (da_cons (de_op op_addU (od_add (s := true)) (de_ix rfl (de_var 2) (de_int (s := true)) (fun _ _ => rfl)) (de_op op_mulU (od_mul (s := true)) (de_var 5) (de_ix rfl (de_var 1) (de_int (s := true)) (fun _ _ => rfl)))) (da_cons (de_op op_addU (od_add (s := true)) (de_ix rfl (de_var 2) (de_int (s := true)) (fun _ _ => rfl)) (de_op op_mulU (od_mul (s := true)) (de_var 5) (de_ix rfl (de_var 1) (de_int (s := true)) (fun _ _ => rfl)))) (da_nil (s := true))))))))))))
  (nss_one (ns_lift fun _ => (ds_ret (de_tup (da_cons (de_tup (da_cons (de_op op_addU (od_add (s := true)) (de_ix rfl (de_var 1) (de_int (s := true)) (fun _ _ => rfl)) (de_ix rfl (de_var 2) (de_int (s := true)) (fun _ _ => rfl))) (da_cons (de_op op_addU (od_add (s := true)) (de_ix rfl (de_var 1) (de_int (s := true)) (fun _ _ => rfl)) (de_ix rfl (de_var 2) (de_int (s := true)) (fun _ _ => rfl))) (da_nil (s := true))))) (da_cons (de_var 1) (da_cons (de_var 2) (da_nil (s := true))))))))))) (by decide))
theorem ok__law_way (T : Tx W mg) (c__law_take : Cal P w W.K mg base 1 "_law_take" s__law_take ["_law_box_here", "_law_many"] (spN W RR 1 2 F__law_take)) {f : Addr} {fd : FuncData} (Fn : Fun W.K "_law_way" "_law_way" s__law_way f fd) : FnG P w W.K mg base CX0 2 f fd ["_law_box_here"] (spN W RR 17 1 F__law_way) :=
  ok_drawN Fn sc__law_way (by decide) (fun ds Φ h => len__law_way h) fun cdv A env s H E N0 b c hr => ⟨wr__law_way, dv__law_way T c__law_take cdv A env s H E N0 b c hr, fun ds Φ h => sem__law_way ds Φ h⟩

def F__law_end : FD := fun ds Φ => ∃ m s : Fr2, ds = [dF m, dF s] ∧ 0 < m.2 ∧ 0 ≤ s.2 ∧ m.1.natAbs < 2 ^ 200 ∧ m.2.natAbs < 2 ^ 200 ∧ s.1.natAbs < 2 ^ 200 ∧ s.2.natAbs < 2 ^ 200 ∧ ∀ a b : Int, 1 ≤ a → 0 ≤ b → a ≤ 4 → b ≤ 4 → Φ (dQ (vF (endX a b m s)))
theorem len__law_end {ds Φ} (h : F__law_end ds Φ) : ds.length + 1 = 3 := by obtain ⟨m, s, e, _⟩ := h; rw [e]; rfl
-- slots of _law_end: 0 _law_box_here, 1 _law_middle, 2 _law_side, 3 _law_share, 4 _law_other, 5 _law_row
def wk__law_end_0 : WS :=
  (wRet (wTup (wCons (wOp fIx (wOp fIx (wVar 5) (wC (.int 0))) (wC (.int 0))) (wCons (wOp fIx (wVar 5) (wC (.int 1))) wNil))))
def wk__law_end_1 : WS :=
  (wSq (wSet 5 (wG F__law_least 2 0 [0, 1] (wCons (wLst (wCons (wOp fAdd (wOp fMul (wVar 3) (wOp fIx (wVar 1) (wC (.int 0)))) (wOp fMul (wVar 4) (wOp fIx (wVar 2) (wC (.int 0))))) wNil)) (wCons (wOp fAdd (wOp fMul (wVar 3) (wOp fIx (wVar 1) (wC (.int 1)))) (wOp fMul (wVar 4) (wOp fIx (wVar 2) (wC (.int 1))))) wNil)) wNil))
  wk__law_end_0)
def wk__law_end_2 : WS :=
  (wSq (wPars [3, 4] (wEd (wOp fAdd (wC (.int 1)) (wGR 0 F__law_take 2 (wCons (wC (.int 4)) wNil))) (wEd (wGR 0 F__law_take 2 (wCons (wC (.int 5)) wNil)) wEn)))
  wk__law_end_1)
def ws__law_end : WS :=
  wk__law_end_2
def wr__law_end : WS :=
  (wSq (wPars [3, 4] (wEd (wOp fAdd (wC (.int 1)) (wGR 0 F__law_take 2 (wCons (wC (.int 4)) wNil))) (wEd (wGR 0 F__law_take 2 (wCons (wC (.int 5)) wNil)) wEn)))
  (wSq (wSet 5 (wG F__law_least 2 0 [0, 1] (wCons (wLst (wCons (wOp fAdd (wOp fMul (wVar 3) (wOp fIx (wVar 1) (wC (.int 0)))) (wOp fMul (wVar 4) (wOp fIx (wVar 2) (wC (.int 0))))) wNil)) (wCons (wOp fAdd (wOp fMul (wVar 3) (wOp fIx (wVar 1) (wC (.int 1)))) (wOp fMul (wVar 4) (wOp fIx (wVar 2) (wC (.int 1))))) wNil)) wNil))
  (wRet (wTup (wCons (wOp fIx (wOp fIx (wVar 5) (wC (.int 0))) (wC (.int 0))) (wCons (wOp fIx (wVar 5) (wC (.int 1))) wNil))))))

theorem sem__law_end (ds : List PyData) (Φ : PyData → Prop) (h : F__law_end ds Φ) : ws__law_end (retX Φ) (ev1 6 ds) := by
  obtain ⟨m, s, rfl, m2, s2, z1, z2, z3, z4, h⟩ := h
  refine sq ⟨rfl, 4, rfl, by decide, by decide, fun r r0 r1 => ⟨rfl, 5, rfl, by decide, by decide, fun t t0 t1 => ⟨rfl, ⟨(by decide : 2 ≤ 100000), fun j hj => ?_⟩, ?_⟩⟩⟩
  · have : j = 3 ∨ j = 4 := by simpa using hj
    show j < 6
    omega
  show wk__law_end_1 (retX Φ) [.m, .d (dF m), .d (dF s), .d (.int (1 + r)), .d (.int t), .u]
  have rb : (1 + r).natAbs < 2 ^ 3 := by omega
  have tb : t.natAbs < 2 ^ 3 := by omega
  have rb' := sml (Nat.lt_of_lt_of_le rb (p2 (by decide)))
  have tb' := sml (Nat.lt_of_lt_of_le tb (p2 (by decide)))
  have y0 : 0 < (1 + r) * m.2 + t * s.2 := by
    have a1 : 0 < (1 + r) * m.2 := Int.mul_pos (by omega) m2
    have a2 : 0 ≤ t * s.2 := Int.mul_nonneg t0 s2
    omega
  have ys : ((1 + r) * m.2 + t * s.2).natAbs < 2 ^ 9000 := Nat.lt_of_lt_of_le (add2i (mul2i rb z2) (mul2i tb z4)) (p2 (by decide))
  refine sq ⟨_, rfl, cmulw rb' (sml z1), _, rfl, cmulw tb' (sml z3), (by decide : 1 ≤ 100000), _, rfl, cmulw rb' (sml z2), _, rfl, cmulw tb' (sml z4), rfl, rfl, _, _, rfl, y0, ys, ?_⟩
  refine ⟨_, rfl, _, rfl, _, rfl, (by decide : 2 ≤ 100000), ?_⟩
  have := h (1 + r) t (by omega) t0 (by omega) (by omega)
  unfold dQ vF at this
  rw [cF_div (by exact y0)] at this
  exact this

theorem dv__law_end (T : Tx W mg) (c__law_least : Cal P w W.K mg base 2 "_law_least" s__law_least ["_law_coefficients", "_law_bound"] (spP W 2 F__law_least)) (c__law_take : Cal P w W.K mg base 1 "_law_take" s__law_take ["_law_box_here", "_law_many"] (spN W RR 1 2 F__law_take)) (cdv : Value) (A : Around) (env : List Env) (s : Shared) (H : Hp) (E : XK) (N0 : Addr → Prop) (b c : Addr) {f : Addr} (hr : Rg 2 (A.deeper (envOfC "_law_end" (defScope s__law_end) s.heap.objs.size f cdv))) :
    PSs (cxOf CX0 P w W.K mg base ["_law_box_here", "_law_middle", "_law_side", "_law_share", "_law_other", "_law_row"] "_law_end" (defScope s__law_end) f cdv A env s H E).nox (defBody s__law_end) (uS ⟨W, RR b c, N0, H⟩ 2 wr__law_end) := by
  have hu : (A.deeper (envOfC "_law_end" (defScope s__law_end) s.heap.objs.size f cdv)).units + 65 < cLine := by have := hr.room.un; omega
  have nd := sc__law_end.nd
  exact (nss_le (nss_cons (ns_par2 3 4 rfl nd (np_d (ne_op op_addU (fun _ => od_add (s := true)) (ne_lift fun _ => (de_int (s := true))) (ne_callR 0 c__law_take rfl rfl hr (kb__law_take_2) (by decide) (by rfl) (na_lift fun _ => (da_cons (de_int (s := true)) (da_nil (s := true)))))) (np_d (ne_callR 0 c__law_take rfl rfl hr (kb__law_take_2) (by decide) (by rfl) (na_lift fun _ => (da_cons (de_int (s := true)) (da_nil (s := true))))) np_nil)))
  (nss_cons (ns_lift fun _ => (ds_set 5 nd (de_callP c__law_least rfl hr kb__law_least_2 (by decide) (by rfl) (da_cons (de_lst (da_cons (de_op op_addU (od_add (s := true)) (de_op op_mulU (od_mul (s := true)) (de_var 3) (de_ix rfl (de_var 1) (de_int (s := true)) (fun _ _ => rfl))) (de_op op_mulU (od_mul (s := true)) (de_var 4) (de_ix rfl (de_var 2) (de_int (s := true)) (fun _ _ => rfl)))) (da_nil (s := true)))) (da_cons (de_op op_addU (od_add (s := true)) (de_op op_mulU (od_mul (s := true)) (de_var 3) (de_ix rfl (de_var 1) (de_int (s := true)) (fun _ _ => rfl))) (de_op op_mulU (od_mul (s := true)) (de_var 4) (de_ix rfl (de_var 2) (de_int (s := true)) (fun _ _ => rfl)))) (da_nil (s := true)))))))
  (nss_one (ns_lift fun _ => (ds_ret (de_tup (da_cons (de_ix rfl (de_ix rfl (de_var 5) (de_int (s := true)) (fun _ _ => rfl)) (de_int (s := true)) (fun _ _ => rfl)) (da_cons (de_ix rfl (de_var 5) (de_int (s := true)) (fun _ _ => rfl)) (da_nil (s := true)))))))))) (by decide))
theorem ok__law_end (T : Tx W mg) (c__law_least : Cal P w W.K mg base 2 "_law_least" s__law_least ["_law_coefficients", "_law_bound"] (spP W 2 F__law_least)) (c__law_take : Cal P w W.K mg base 1 "_law_take" s__law_take ["_law_box_here", "_law_many"] (spN W RR 1 2 F__law_take)) {f : Addr} {fd : FuncData} (Fn : Fun W.K "_law_end" "_law_end" s__law_end f fd) : FnG P w W.K mg base CX0 3 f fd ["_law_box_here", "_law_middle", "_law_side"] (spN W RR 2 3 F__law_end) :=
  ok_drawN Fn sc__law_end (by decide) (fun ds Φ h => len__law_end h) fun cdv A env s H E N0 b c hr => ⟨wr__law_end, dv__law_end T c__law_least c__law_take cdv A env s H E N0 b c hr, fun ds Φ h => sem__law_end ds Φ h⟩

def F__law_none_less : FD := fun ds Φ => ∃ (f l : Rat) (h : Option Rat), ds = [dQ f, dQ l, dE h] ∧ Btw f l h ∧ Sz 4000 f ∧ Sz 4000 l ∧ SzE 4000 h ∧ Φ (.bool true)
theorem len__law_none_less {ds Φ} (h : F__law_none_less ds Φ) : ds.length = 3 := by obtain ⟨a, b, c, e, _⟩ := h; rw [e]; rfl
-- slots of _law_none_less: 0 _law_found, 1 _law_low, 2 _law_high, 3 _law_bottom, 4 _law_first, 5 _law_top, 6 _law_last
def wk__law_none_less_0 : WS :=
  (wIf (wOr (wTest (wOp fIs (wVar 2) (wC .none))) (wTest (wOp fLe (wOp fMul (wVar 4) (wOp fIx (wVar 2) (wC (.int 1)))) (wOp fMul (wOp fIx (wVar 2) (wC (.int 0))) (wVar 3)))))
  (wRet (wC (.bool false)))
  wNx)
def wk__law_none_less_1 : WS :=
  (wSq (wSet 4 (wOp fSub (wC (.int 0)) (wOp fDiv (wOp fSub (wC (.int 0)) (wOp fMul (wOp fIx (wVar 1) (wC (.int 0))) (wVar 3))) (wOp fIx (wVar 1) (wC (.int 1))))))
  wk__law_none_less_0)
def wk__law_none_less_2 : WS :=
  (wIf (wAnd (wTest (wOp fGt (wVar 6) (wC (.int 0)))) (wOr (wTest (wOp fIs (wVar 2) (wC .none))) (wTest (wOp fLe (wOp fMul (wVar 5) (wOp fIx (wVar 2) (wC (.int 1)))) (wOp fMul (wOp fIx (wVar 2) (wC (.int 0))) (wVar 6))))))
  (wRet (wC (.bool false)))
  wNx)
def wk__law_none_less_3 : WS :=
  (wSq (wSet 6 (wOp fDiv (wOp fMul (wVar 5) (wOp fIx (wVar 1) (wC (.int 1)))) (wOp fIx (wVar 1) (wC (.int 0)))))
  wk__law_none_less_2)
def wk__law_none_less_4 : WS :=
  (wSq (wFor (wRng2 (wCons (wC (.int 1)) (wCons (wCall fMin (wCons (wOp fIx (wVar 0) (wC (.int 0))) (wCons (wC (.int 9)) wNil))) wNil))) (gN 5)
  wk__law_none_less_3)
  (wRet (wC (.bool true))))
def wk__law_none_less_5 : WS :=
  (wSq (wFor (wRng2 (wCons (wC (.int 1)) (wCons (wCall fMin (wCons (wOp fIx (wVar 0) (wC (.int 1))) (wCons (wC (.int 9)) wNil))) wNil))) (gN 3)
  wk__law_none_less_1)
  wk__law_none_less_4)
def ws__law_none_less : WS :=
  wk__law_none_less_5
def wr__law_none_less : WS :=
  (wSq (wFor (wRng2 (wCons (wC (.int 1)) (wCons (wCall fMin (wCons (wOp fIx (wVar 0) (wC (.int 1))) (wCons (wC (.int 9)) wNil))) wNil))) (gN 3)
  (wSq (wSet 4 (wOp fSub (wC (.int 0)) (wOp fDiv (wOp fSub (wC (.int 0)) (wOp fMul (wOp fIx (wVar 1) (wC (.int 0))) (wVar 3))) (wOp fIx (wVar 1) (wC (.int 1))))))
  (wIf (wOr (wTest (wOp fIs (wVar 2) (wC .none))) (wTest (wOp fLe (wOp fMul (wVar 4) (wOp fIx (wVar 2) (wC (.int 1)))) (wOp fMul (wOp fIx (wVar 2) (wC (.int 0))) (wVar 3)))))
  (wRet (wC (.bool false)))
  wNx)))
  (wSq (wFor (wRng2 (wCons (wC (.int 1)) (wCons (wCall fMin (wCons (wOp fIx (wVar 0) (wC (.int 0))) (wCons (wC (.int 9)) wNil))) wNil))) (gN 5)
  (wSq (wSet 6 (wOp fDiv (wOp fMul (wVar 5) (wOp fIx (wVar 1) (wC (.int 1)))) (wOp fIx (wVar 1) (wC (.int 0)))))
  (wIf (wAnd (wTest (wOp fGt (wVar 6) (wC (.int 0)))) (wOr (wTest (wOp fIs (wVar 2) (wC .none))) (wTest (wOp fLe (wOp fMul (wVar 5) (wOp fIx (wVar 2) (wC (.int 1)))) (wOp fMul (wOp fIx (wVar 2) (wC (.int 0))) (wVar 6))))))
  (wRet (wC (.bool false)))
  wNx)))
  (wRet (wC (.bool true)))))

theorem divInt_le {t b : Int} (hb : 0 < b) (ht : 0 < t) : (Rat.divInt t b).num ≤ t ∧ ((Rat.divInt t b).den : Int) ≤ b := by
  have e := cF_div (t := t) hb
  have g0 := gg_pos (t := t) hb
  have e1 : (Rat.divInt t b).num = t.fdiv (gg t b) := congrArg Prod.fst e
  have e2 : ((Rat.divInt t b).den : Int) = b.fdiv (gg t b) := congrArg Prod.snd e
  have a1 := fdiv_abs_le (v := t) g0
  have a2 := fdiv_abs_le (v := b) g0
  have d0 := den_pos (Rat.divInt t b)
  exact ⟨by omega, by omega⟩
theorem sem__law_none_less (ds : List PyData) (Φ : PyData → Prop) (h : F__law_none_less ds Φ) : ws__law_none_less (retX Φ) (ev0 7 ds) := by
  obtain ⟨f, l, h, rfl, bt, sf, sl, sh, hΦ⟩ := h
  have lp := Rat_num_pos bt.lo
  have ld := den_pos l
  have fd := den_pos f
  have fn := Rat_num_pos bt.pos
  -- no fraction t / b of the range with a lesser top or bottom
  have none_ : ∀ t b : Int, 0 < b → 0 < t → l.num * b ≤ t * (l.den : Int) → (∀ r, h = some r → t * (r.den : Int) ≤ r.num * b) → f.num ≤ t ∧ (f.den : Int) ≤ b := fun t b hb ht h1 h2 => by
    obtain ⟨g1, g2⟩ := bt.ls (Rat.divInt t b) ⟨fun l' e => by cases e; exact (vF_le (x := (t, b)) hb l).mpr h1, fun r e => (le_vF (x := (t, b)) hb r).mpr (h2 r e)⟩
    obtain ⟨g3, g4⟩ := divInt_le hb ht
    exact ⟨by omega, by omega⟩
  have few : ∀ {x : Int}, 0 < x → (intsFrom 1 ((if (9 : Int) < x then 9 else x) - 1).toNat).length ≤ 9 ∧ ∀ i : Nat, i < (intsFrom 1 ((if (9 : Int) < x then 9 else x) - 1).toNat).length → (1 + (i : Int) < x ∧ 1 + (i : Int) < 9) := fun {x} hx => by
    rw [intsFrom_len]
    split
    · exact ⟨by omega, fun i hi => by omega⟩
    · exact ⟨by omega, fun i hi => by omega⟩
  have mn : ∀ {x : Int} {Ψ : List PyData → Prop}, 0 < x → Ψ (intsFrom 1 ((if (9 : Int) < x then 9 else x) - 1).toNat) → (fMin [.int x, .int 9] fun d => match (motive := _ → Prop) [PyData.int 1, d] with | [.int i, .int j] => (-(2 ^ 60) < i ∧ i < 2 ^ 60 ∧ -(2 ^ 60) < j ∧ j < 2 ^ 60) ∧ Ψ (intsFrom i (j - i).toNat) | _ => False) := fun {x Ψ} hx h => by
    show (_ ∧ _)
    exact ⟨by split <;> omega, h⟩
  have second : ∀ x3 x4 : Ent, wk__law_none_less_4 (retX Φ) [.d (dQ f), .d (dQ l), .d (dE h), x3, x4, .u, .u] := by
    intro x3 x4
    obtain ⟨_, lt⟩ := few fn
    refine sq (for_all (ds := intsFrom 1 ((if (9 : Int) < f.num then 9 else f.num) - 1).toNat) (fun _ ρ => ∃ x5 x6 : Ent, ρ = [.d (dQ f), .d (dQ l), .d (dE h), x3, x4, x5, x6]) (fun Ψ h => ⟨_, rfl, mn fn h⟩) ⟨_, _, rfl⟩ (fun i d ρ2 hd hj => ?_) fun ρ2 hj => ?_)
    · obtain ⟨x5, x6, rfl⟩ := hj
      obtain rfl := intsFrom_get hd
      obtain ⟨t1, t2⟩ := lt i (List.getElem?_eq_some_iff.mp hd).1
      generalize ht : 1 + (i : Int) = t at t1 t2 ⊢
      have t0 : 0 < t := by omega
      have tb : t.natAbs < 2 ^ 9000 := sml (Nat.lt_of_lt_of_le (show t.natAbs < 2 ^ 64 by omega) (p2 (by decide)))
      have cd : (l.num ≠ 0 ∧ l.num.natAbs < 1073741824) ∨ (0 < l.num ∧ l.num.natAbs.log2 < 9000) := .inr ⟨lp, (Nat.log2_lt (by omega)).mpr (le4 sl.1)⟩
      refine ⟨(by decide : 5 < 7), sq ⟨_, rfl, cmulw tb (le4 sl.2), _, rfl, cd, ?_⟩⟩
      have q1 : (t * (l.den : Int)).fdiv l.num * l.num ≤ t * (l.den : Int) := by
        rw [Int.fdiv_eq_ediv_of_nonneg _ (by omega)]
        exact Int.ediv_mul_le _ (by omega)
      have q2 : ((t * (l.den : Int)).fdiv l.num).natAbs ≤ (t * (l.den : Int)).natAbs := fdiv_abs_le lp
      have q3 : ((t * (l.den : Int)).fdiv l.num).natAbs < 2 ^ 9000 := Nat.lt_of_le_of_lt q2 (mulLt (m := 64) (n := 4000) (show t.natAbs < 2 ^ 64 by omega) sl.2 (by decide))
      show wk__law_none_less_2 _ [.d (dQ f), .d (dQ l), .d (dE h), x3, x4, .d (.int t), .d (.int ((t * (l.den : Int)).fdiv l.num))]
      generalize (t * (l.den : Int)).fdiv l.num = b at q1 q3 ⊢
      show (if decide (0 < b) = true then _ else _)
      by_cases b0 : 0 < b
      · rw [decide_eq_true b0, if_pos rfl]
        have not : ¬ ∀ r, h = some r → t * (r.den : Int) ≤ r.num * b := fun z => by
          have := (none_ t b b0 t0 (by rw [Int.mul_comm]; exact q1) z).1
          omega
        cases h with
        | none => exact absurd (fun r e => nomatch e) not
        | some r =>
          have sr := sh r rfl
          refine ⟨_, rfl, cmulw tb (le4 sr.2), _, rfl, cmulw (le4 sr.1) q3, ?_⟩
          have c : ¬ t * (r.den : Int) ≤ r.num * b := fun z => not fun r' e => by cases e; exact z
          show (if decide (t * (r.den : Int) ≤ r.num * b) = true then _ else _)
          rw [decide_eq_false c, if_neg Bool.false_ne_true]
          exact ⟨_, _, rfl⟩
      · rw [decide_eq_false b0, if_neg Bool.false_ne_true]
        exact ⟨_, _, rfl⟩
    · obtain ⟨x5, x6, rfl⟩ := hj
      exact hΦ
  obtain ⟨_, lt⟩ := few fd
  refine sq (for_all (ds := intsFrom 1 ((if (9 : Int) < (f.den : Int) then 9 else (f.den : Int)) - 1).toNat) (fun _ ρ => ∃ x3 x4 : Ent, ρ = [.d (dQ f), .d (dQ l), .d (dE h), x3, x4, .u, .u]) (fun Ψ h => ⟨_, rfl, mn fd h⟩) ⟨_, _, rfl⟩ (fun i d ρ2 hd hj => ?_) fun ρ2 hj => ?_)
  · obtain ⟨x5, x6, rfl⟩ := hj
    obtain rfl := intsFrom_get hd
    obtain ⟨t1, t2⟩ := lt i (List.getElem?_eq_some_iff.mp hd).1
    generalize ht : 1 + (i : Int) = b at t1 t2 ⊢
    have b0 : 0 < b := by omega
    have bb : b.natAbs < 2 ^ 9000 := sml (Nat.lt_of_lt_of_le (show b.natAbs < 2 ^ 64 by omega) (p2 (by decide)))
    have cd : ((l.den : Int) ≠ 0 ∧ (l.den : Int).natAbs < 1073741824) ∨ (0 < (l.den : Int) ∧ (l.den : Int).natAbs.log2 < 9000) := .inr ⟨ld, (Nat.log2_lt (by omega)).mpr (le4 sl.2)⟩
    refine ⟨(by decide : 3 < 7), sq ⟨_, rfl, cmulw (le4 sl.1) bb, _, rfl, cd, ?_⟩⟩
    have q0 := ceil_spec (p := (l.num * b, (l.den : Int))) ld
    have ec : ceilF (l.num * b, (l.den : Int)) = 0 - (0 - l.num * b).fdiv (l.den : Int) := by
      unfold ceilF
      rw [Int.zero_sub, Int.zero_sub]
    rw [ec] at q0
    obtain ⟨q1, _⟩ := q0
    have q1 : l.num * b ≤ (0 - (0 - l.num * b).fdiv (l.den : Int)) * (l.den : Int) := q1
    have q2 : ((0 - l.num * b).fdiv (l.den : Int)).natAbs ≤ (0 - l.num * b).natAbs := fdiv_abs_le ld
    have q3 : (0 - (0 - l.num * b).fdiv (l.den : Int)).natAbs < 2 ^ 9000 := by
      have : (l.num * b).natAbs < 2 ^ 9000 := mulLt (m := 4000) (n := 64) sl.1 (show b.natAbs < 2 ^ 64 by omega) (by decide)
      omega
    show wk__law_none_less_0 _ [.d (dQ f), .d (dQ l), .d (dE h), .d (.int b), .d (.int (0 - (0 - l.num * b).fdiv (l.den : Int))), .u, .u]
    generalize 0 - (0 - l.num * b).fdiv (l.den : Int) = t at q1 q3 ⊢
    have lb : 0 < l.num * b := Int.mul_pos lp b0
    have t0 : 0 < t := by
      rcases Int.lt_or_le 0 t with z | z
      · exact z
      · have : t * (l.den : Int) ≤ 0 * (l.den : Int) := Int.mul_le_mul_of_nonneg_right z (by omega)
        omega
    have not : ¬ ∀ r, h = some r → t * (r.den : Int) ≤ r.num * b := fun z => by
      have := (none_ t b b0 t0 q1 z).2
      omega
    cases h with
    | none => exact absurd (fun r e => nomatch e) not
    | some r =>
      have sr := sh r rfl
      refine ⟨_, rfl, cmulw q3 (le4 sr.2), _, rfl, cmulw (le4 sr.1) bb, ?_⟩
      have c : ¬ t * (r.den : Int) ≤ r.num * b := fun z => not fun r' e => by cases e; exact z
      show (if decide (t * (r.den : Int) ≤ r.num * b) = true then _ else _)
      rw [decide_eq_false c, if_neg Bool.false_ne_true]
      exact ⟨_, _, rfl⟩
  · obtain ⟨x3, x4, rfl⟩ := hj
    exact second x3 x4

theorem dv__law_none_less (T : Tx W mg) (cdv : Value) (A : Around) (env : List Env) (s : Shared) (H : Hp) (E : XK) (N0 : Addr → Prop) {f : Addr} (hr : Rg 0 (A.deeper (envOfC "_law_none_less" (defScope s__law_none_less) s.heap.objs.size f cdv))) :
    PSs (cxOf CX0 P w W.K mg base ["_law_found", "_law_low", "_law_high", "_law_bottom", "_law_first", "_law_top", "_law_last"] "_law_none_less" (defScope s__law_none_less) f cdv A env s H E).nox (defBody s__law_none_less) (upS ⟨W, Res.none, N0, H⟩ wr__law_none_less) := by
  have hu : (A.deeper (envOfC "_law_none_less" (defScope s__law_none_less) s.heap.objs.size f cdv)).units + 65 < cLine := by have := hr.room.un; omega
  have nd := sc__law_none_less.nd
  exact (dss_cons (ds_for PassesOwn.never rfl (di_rng2 (by rfl) T.m_range (da_cons (de_int (s := true)) (da_cons (de_callB (s := true) (call_minU rfl) cd_min (by rfl) T.m_min boot_min (da_cons (de_ix rfl (de_var 0) (de_int (s := true)) (fun _ _ => rfl)) (da_cons (de_int (s := true)) (da_nil (s := true))))) (da_nil (s := true))))) (dg_name 3 nd) (dss_cons (ds_set 4 nd (de_op op_sub (od_sub (s := true)) (de_int (s := true)) (de_op op_divU (od_div (s := true)) (de_op op_sub (od_sub (s := true)) (de_int (s := true)) (de_op op_mulU (od_mul (s := true)) (de_ix rfl (de_var 1) (de_int (s := true)) (fun _ _ => rfl)) (de_var 3))) (de_ix rfl (de_var 1) (de_int (s := true)) (fun _ _ => rfl)))))
  (dss_one (ds_if (dt_pw (dw_or (dt_cmp op_isU od_is (de_var 2) (de_non (s := true)) (nomark _)) (dw_or1 (dt_cmp op_le od_le (de_op op_mulU (od_mul (s := true)) (de_var 4) (de_ix rfl (de_var 2) (de_int (s := true)) (fun _ _ => rfl))) (de_op op_mulU (od_mul (s := true)) (de_ix rfl (de_var 2) (de_int (s := true)) (fun _ _ => rfl)) (de_var 3)) (nomark _))))) (dss_one (ds_ret (de_bl (s := true)))) dss_nil))))
  (dss_cons (ds_for PassesOwn.never rfl (di_rng2 (by rfl) T.m_range (da_cons (de_int (s := true)) (da_cons (de_callB (s := true) (call_minU rfl) cd_min (by rfl) T.m_min boot_min (da_cons (de_ix rfl (de_var 0) (de_int (s := true)) (fun _ _ => rfl)) (da_cons (de_int (s := true)) (da_nil (s := true))))) (da_nil (s := true))))) (dg_name 5 nd) (dss_cons (ds_set 6 nd (de_op op_divU (od_div (s := true)) (de_op op_mulU (od_mul (s := true)) (de_var 5) (de_ix rfl (de_var 1) (de_int (s := true)) (fun _ _ => rfl))) (de_ix rfl (de_var 1) (de_int (s := true)) (fun _ _ => rfl))))
  (dss_one (ds_if (dt_pw (dw_and (dt_cmp op_gt od_gt (de_var 6) (de_int (s := true)) (nomark _)) (dw_and1 (dt_pw (dw_or (dt_cmp op_isU od_is (de_var 2) (de_non (s := true)) (nomark _)) (dw_or1 (dt_cmp op_le od_le (de_op op_mulU (od_mul (s := true)) (de_var 5) (de_ix rfl (de_var 2) (de_int (s := true)) (fun _ _ => rfl))) (de_op op_mulU (od_mul (s := true)) (de_ix rfl (de_var 2) (de_int (s := true)) (fun _ _ => rfl)) (de_var 6)) (nomark _)))))))) (dss_one (ds_ret (de_bl (s := true)))) dss_nil))))
  (dss_one (ds_ret (de_bl (s := true))))))
theorem ok__law_none_less (T : Tx W mg) {f : Addr} {fd : FuncData} (Fn : Fun W.K "_law_none_less" "_law_none_less" s__law_none_less f fd) : FnG P w W.K mg base CX0 1 f fd ["_law_found", "_law_low", "_law_high"] (spP W 3 F__law_none_less) :=
  ok_pure Fn sc__law_none_less (by decide) (fun ds Φ h => len__law_none_less h) fun cdv A env s H E N0 hr => ⟨wr__law_none_less, dv__law_none_less T cdv A env s H E N0 hr, fun ds Φ h => sem__law_none_less ds Φ h⟩

def oddL (t b : Int) : List PyData := [.tuple [.int t, .int (0 - b)], .tuple [.int t, .int 0], .tuple [.int (2 * t), .int (2 * b)], .tuple [.int 0, .int b], .tuple [.bool true, .int 1], .tuple [.int 1, .bool true], .list [.int t, .int b], .tuple [.int t],
  .none, .int 0, .int 7, .str "12", .tuple [.int t, .int b, .int 1], .tuple [.none, .int 1], .tuple [.str "1", .int 1], .dict [], .tuple [.int b, .int t], .tuple [.tuple [.int 1, .int 2], .int 1]]
def F__law_odd : FD := fun ds Φ => ∃ q : Rat, ds = [dQ q] ∧ Sz 4000 q ∧ ∀ d ∈ oddL q.num q.den, Φ d
theorem len__law_odd {ds Φ} (h : F__law_odd ds Φ) : ds.length + 1 = 2 := by obtain ⟨a, e, _⟩ := h; rw [e]; rfl
-- slots of _law_odd: 0 _law_box_here, 1 _law_one, 2 _law_top, 3 _law_bottom, 4 _law_some
def wk__law_odd_0 : WS :=
  (wRet (wGR 0 F__law_pick 2 (wCons (wOp fAdd (wVar 4) (wLst (wCons (wC .none) (wCons (wC (.int 0)) (wCons (wC (.int 7)) (wCons (wC (.str "12")) (wCons (wTup (wCons (wVar 2) (wCons (wVar 3) (wCons (wC (.int 1)) wNil)))) (wCons (wTup (wCons (wC .none) (wCons (wC (.int 1)) wNil))) (wCons (wTup (wCons (wC (.str "1")) (wCons (wC (.int 1)) wNil))) (wCons (wC (.dict [])) (wCons (wTup (wCons (wVar 3) (wCons (wVar 2) wNil))) (wCons (wTup (wCons (wTup (wCons (wC (.int 1)) (wCons (wC (.int 2)) wNil))) (wCons (wC (.int 1)) wNil))) wNil)))))))))))) wNil)))
def wk__law_odd_1 : WS :=
  (wSq (wSet 4 (wLst (wCons (wTup (wCons (wVar 2) (wCons (wOp fSub (wC (.int 0)) (wVar 3)) wNil))) (wCons (wTup (wCons (wVar 2) (wCons (wC (.int 0)) wNil))) (wCons (wTup (wCons (wOp fMul (wC (.int 2)) (wVar 2)) (wCons (wOp fMul (wC (.int 2)) (wVar 3)) wNil))) (wCons (wTup (wCons (wC (.int 0)) (wCons (wVar 3) wNil))) (wCons (wTup (wCons (wC (.bool true)) (wCons (wC (.int 1)) wNil))) (wCons (wTup (wCons (wC (.int 1)) (wCons (wC (.bool true)) wNil))) (wCons (wLst (wCons (wVar 2) (wCons (wVar 3) wNil))) (wCons (wTup (wCons (wVar 2) wNil)) wNil))))))))))
  wk__law_odd_0)
def wk__law_odd_2 : WS :=
  (wSq (wAs (wVar 1) (gT 2 (gsCons (gN 2) (gsCons (gN 3) gsNil))))
  wk__law_odd_1)
def ws__law_odd : WS :=
  wk__law_odd_2
def wr__law_odd : WS :=
  (wSq (wAs (wVar 1) (gT 2 (gsCons (gN 2) (gsCons (gN 3) gsNil))))
  (wSq (wSet 4 (wLst (wCons (wTup (wCons (wVar 2) (wCons (wOp fSub (wC (.int 0)) (wVar 3)) wNil))) (wCons (wTup (wCons (wVar 2) (wCons (wC (.int 0)) wNil))) (wCons (wTup (wCons (wOp fMul (wC (.int 2)) (wVar 2)) (wCons (wOp fMul (wC (.int 2)) (wVar 3)) wNil))) (wCons (wTup (wCons (wC (.int 0)) (wCons (wVar 3) wNil))) (wCons (wTup (wCons (wC (.bool true)) (wCons (wC (.int 1)) wNil))) (wCons (wTup (wCons (wC (.int 1)) (wCons (wC (.bool true)) wNil))) (wCons (wLst (wCons (wVar 2) (wCons (wVar 3) wNil))) (wCons (wTup (wCons (wVar 2) wNil)) wNil))))))))))
  (wRet (wGR 0 F__law_pick 2 (wCons (wOp fAdd (wVar 4) (wLst (wCons (wC .none) (wCons (wC (.int 0)) (wCons (wC (.int 7)) (wCons (wC (.str "12")) (wCons (wTup (wCons (wVar 2) (wCons (wVar 3) (wCons (wC (.int 1)) wNil)))) (wCons (wTup (wCons (wC .none) (wCons (wC (.int 1)) wNil))) (wCons (wTup (wCons (wC (.str "1")) (wCons (wC (.int 1)) wNil))) (wCons (wC (.dict [])) (wCons (wTup (wCons (wVar 3) (wCons (wVar 2) wNil))) (wCons (wTup (wCons (wTup (wCons (wC (.int 1)) (wCons (wC (.int 2)) wNil))) (wCons (wC (.int 1)) wNil))) wNil)))))))))))) wNil)))))

def plainB : PyData → Bool
  | .dict kvs => kvs.isEmpty
  | _ => true
theorem plainO_of {d : PyData} (h : plainB d = true) : plainO d := by
  cases d with
  | dict kvs => exact List.isEmpty_iff.mp h
  | _ => trivial
def oddB : PyData → Bool
  | .tuple xs => xs.all plainB
  | d => plainB d
theorem oddOk_of {d : PyData} (h : oddB d = true) : oddOk d := by
  cases d with
  | tuple xs => exact ⟨trivial, fun ys e x hx => by cases e; exact plainO_of (List.all_eq_true.mp h x hx)⟩
  | dict kvs => exact ⟨plainO_of h, fun ys e => by cases e⟩
  | _ => exact ⟨trivial, fun ys e => by cases e⟩
theorem odd_ok {t b : Int} {d : PyData} (h : d ∈ oddL t b) : oddOk d := by
  simp only [oddL, List.mem_cons, List.not_mem_nil, or_false] at h
  rcases h with rfl | rfl | rfl | rfl | rfl | rfl | rfl | rfl | rfl | rfl | rfl | rfl | rfl | rfl | rfl | rfl | rfl | rfl <;> exact oddOk_of rfl
theorem sem__law_odd (ds : List PyData) (Φ : PyData → Prop) (h : F__law_odd ds Φ) : ws__law_odd (retX Φ) (ev1 5 ds) := by
  obtain ⟨q, rfl, hs, h⟩ := h
  have c1 : CMulW 2 q.num := cmulw (sml (by decide)) (le4 hs.1)
  have c2 : CMulW 2 (q.den : Int) := cmulw (sml (by decide)) (le4 hs.2)
  have l1 : 1 ≤ 100000 := by decide
  have l2 : 2 ≤ 100000 := by decide
  have l3 : 3 ≤ 100000 := by decide
  refine sq ⟨rfl, (by decide : 2 < 5), (by decide : 3 < 5), ?_⟩
  show wk__law_odd_1 (retX Φ) [.m, .d (dQ q), .d (.int q.num), .d (.int q.den), .u]
  refine sq ⟨l2, l2, c1, c2, l2, l2, l2, l2, l2, l1, (by decide : 8 ≤ 100000), ?_⟩
  exact ⟨l3, l2, l2, l2, l2, l2, (by decide : 10 ≤ 100000), (by decide : 8 + 10 ≤ 100000), rfl, oddL q.num q.den, rfl, by unfold oddL; simp, (by show 18 ≤ 2000; decide), h⟩

theorem dv__law_odd (T : Tx W mg) (c__law_pick : Cal P w W.K mg base 2 "_law_pick" s__law_pick ["_law_box_here", "_law_some"] (spN W RR 1 2 F__law_pick)) (cdv : Value) (A : Around) (env : List Env) (s : Shared) (H : Hp) (E : XK) (N0 : Addr → Prop) (b c : Addr) {f : Addr} (hr : Rg 2 (A.deeper (envOfC "_law_odd" (defScope s__law_odd) s.heap.objs.size f cdv))) :
    PSs (cxOf CX0 P w W.K mg base ["_law_box_here", "_law_one", "_law_top", "_law_bottom", "_law_some"] "_law_odd" (defScope s__law_odd) f cdv A env s H E).nox (defBody s__law_odd) (uS ⟨W, RR b c, N0, H⟩ 1 wr__law_odd) := by
  have hu : (A.deeper (envOfC "_law_odd" (defScope s__law_odd) s.heap.objs.size f cdv)).units + 65 < cLine := by have := hr.room.un; omega
  have nd := sc__law_odd.nd
  exact (nss_le (nss_cons (ns_lift fun _ => (ds_asg (de_var 1) (dg_tup rfl rfl (dgs_cons (dg_name 2 nd) (dgs_cons (dg_name 3 nd) dgs_nil)))))
  (nss_cons (ns_lift fun _ => (ds_set 4 nd (de_lst (da_cons (de_tup (da_cons (de_var 2) (da_cons (de_op op_sub (od_sub (s := true)) (de_int (s := true)) (de_var 3)) (da_nil (s := true))))) (da_cons (de_tup (da_cons (de_var 2) (da_cons (de_int (s := true)) (da_nil (s := true))))) (da_cons (de_tup (da_cons (de_op op_mulU (od_mul (s := true)) (de_int (s := true)) (de_var 2)) (da_cons (de_op op_mulU (od_mul (s := true)) (de_int (s := true)) (de_var 3)) (da_nil (s := true))))) (da_cons (de_tup (da_cons (de_int (s := true)) (da_cons (de_var 3) (da_nil (s := true))))) (da_cons (de_tup (da_cons (de_bl (s := true)) (da_cons (de_int (s := true)) (da_nil (s := true))))) (da_cons (de_tup (da_cons (de_int (s := true)) (da_cons (de_bl (s := true)) (da_nil (s := true))))) (da_cons (de_lst (da_cons (de_var 2) (da_cons (de_var 3) (da_nil (s := true))))) (da_cons (de_tup (da_cons (de_var 2) (da_nil (s := true)))) (da_nil (s := true)))))))))))))
  (nss_one (ns_ret (ne_callR 0 c__law_pick rfl rfl hr (kb__law_pick_2) (by decide) (by rfl) (na_lift fun _ => (da_cons (de_op op_addU (od_add (s := true)) (de_var 4) (de_lst (da_cons (de_non (s := true)) (da_cons (de_int (s := true)) (da_cons (de_int (s := true)) (da_cons (de_str (s := true)) (da_cons (de_tup (da_cons (de_var 2) (da_cons (de_var 3) (da_cons (de_int (s := true)) (da_nil (s := true)))))) (da_cons (de_tup (da_cons (de_non (s := true)) (da_cons (de_int (s := true)) (da_nil (s := true))))) (da_cons (de_tup (da_cons (de_str (s := true)) (da_cons (de_int (s := true)) (da_nil (s := true))))) (da_cons (de_dict0 (s := true)) (da_cons (de_tup (da_cons (de_var 3) (da_cons (de_var 2) (da_nil (s := true))))) (da_cons (de_tup (da_cons (de_tup (da_cons (de_int (s := true)) (da_cons (de_int (s := true)) (da_nil (s := true))))) (da_cons (de_int (s := true)) (da_nil (s := true))))) (da_nil (s := true)))))))))))))) (da_nil (s := true))))))))) (by decide))
theorem ok__law_odd (T : Tx W mg) (c__law_pick : Cal P w W.K mg base 2 "_law_pick" s__law_pick ["_law_box_here", "_law_some"] (spN W RR 1 2 F__law_pick)) {f : Addr} {fd : FuncData} (Fn : Fun W.K "_law_odd" "_law_odd" s__law_odd f fd) : FnG P w W.K mg base CX0 3 f fd ["_law_box_here", "_law_one"] (spN W RR 1 2 F__law_odd) :=
  ok_drawN Fn sc__law_odd (by decide) (fun ds Φ h => len__law_odd h) fun cdv A env s H E N0 b c hr => ⟨wr__law_odd, dv__law_odd T c__law_pick cdv A env s H E N0 b c hr, fun ds Φ h => sem__law_odd ds Φ h⟩

def F__law_near_right : FD := fun ds Φ => ds = [] ∧ Φ (.bool true)
theorem len__law_near_right {ds Φ} (h : F__law_near_right ds Φ) : ds.length + 1 = 1 := by obtain ⟨e, _⟩ := h; rw [e]; rfl
-- slots of _law_near_right: 0 _law_box_here, 1 _law_many, 2 _law_below, 3 _law_near, 4 _law_far
def wk__law_near_right_0 : WS :=
  (wPars [3, 4] (wEd (wG F__law_turn 1 0 [0] (wCons (wTup (wCons (wVar 1) (wCons (wOp fAdd (wVar 1) (wC (.int 1))) wNil))) wNil) wNil) (wEd (wG F__law_turn 1 0 [0] (wCons (wTup (wCons (wOp fSub (wVar 1) (wC (.int 1))) (wCons (wVar 1) wNil))) wNil) wNil) wEn)))
def wk__law_near_right_1 : WS :=
  (wRet (wAndV (wOp fEq (wG (noRaiseM F_least_of) 1 0 [0] (wCons (wTup (wCons (wVar 4) (wCons (wVar 3) (wCons (wVar 4) wNil)))) wNil) wNil) (wVar 3)) (wOp fEq (wG (noRaiseM F_greatest_of) 1 0 [0] (wCons (wTup (wCons (wVar 3) (wCons (wVar 4) (wCons (wVar 3) wNil)))) wNil) wNil) (wVar 4))))
def wk__law_near_right_2 : WS :=
  (wSq (wIf (wOr (wTest (wOp fIsNot (wG F_less 2 0 [0, 1] (wCons (wVar 3) (wCons (wVar 4) wNil)) wNil) (wC (.bool true)))) (wTest (wOp fIsNot (wG F_less 2 0 [0, 1] (wCons (wVar 4) (wCons (wVar 3) wNil)) wNil) (wC (.bool false)))))
  (wRet (wC (.bool false)))
  wNx)
  wk__law_near_right_1)
def wk__law_near_right_3 : WS :=
  (wSq (wIf (wTest (wOp fEq (wVar 2) (wC (.int 1))))
  wk__law_near_right_0
  wNx)
  wk__law_near_right_2)
def wk__law_near_right_4 : WS :=
  (wSq (wPars [3, 4] (wEd (wTup (wCons (wOp fSub (wVar 1) (wC (.int 1))) (wCons (wVar 1) wNil))) (wEd (wTup (wCons (wVar 1) (wCons (wOp fAdd (wVar 1) (wC (.int 1))) wNil))) wEn)))
  wk__law_near_right_3)
def wk__law_near_right_5 : WS :=
  (wSq (wPars [1, 2] (wEd (wOp fSub (wOp fSub (wOp fPow (wC (.int 10)) (wC (.int 9))) (wC (.int 1))) (wGR 0 F__law_take 2 (wCons (wC (.int 1000)) wNil))) (wEd (wGR 0 F__law_take 2 (wCons (wC (.int 2)) wNil)) wEn)))
  wk__law_near_right_4)
def ws__law_near_right : WS :=
  wk__law_near_right_5
def wr__law_near_right : WS :=
  (wSq (wPars [1, 2] (wEd (wOp fSub (wOp fSub (wOp fPow (wC (.int 10)) (wC (.int 9))) (wC (.int 1))) (wGR 0 F__law_take 2 (wCons (wC (.int 1000)) wNil))) (wEd (wGR 0 F__law_take 2 (wCons (wC (.int 2)) wNil)) wEn)))
  (wSq (wPars [3, 4] (wEd (wTup (wCons (wOp fSub (wVar 1) (wC (.int 1))) (wCons (wVar 1) wNil))) (wEd (wTup (wCons (wVar 1) (wCons (wOp fAdd (wVar 1) (wC (.int 1))) wNil))) wEn)))
  (wSq (wIf (wTest (wOp fEq (wVar 2) (wC (.int 1))))
  (wPars [3, 4] (wEd (wG F__law_turn 1 0 [0] (wCons (wTup (wCons (wVar 1) (wCons (wOp fAdd (wVar 1) (wC (.int 1))) wNil))) wNil) wNil) (wEd (wG F__law_turn 1 0 [0] (wCons (wTup (wCons (wOp fSub (wVar 1) (wC (.int 1))) (wCons (wVar 1) wNil))) wNil) wNil) wEn)))
  wNx)
  (wSq (wIf (wOr (wTest (wOp fIsNot (wG F_less 2 0 [0, 1] (wCons (wVar 3) (wCons (wVar 4) wNil)) wNil) (wC (.bool true)))) (wTest (wOp fIsNot (wG F_less 2 0 [0, 1] (wCons (wVar 4) (wCons (wVar 3) wNil)) wNil) (wC (.bool false)))))
  (wRet (wC (.bool false)))
  wNx)
  (wRet (wAndV (wOp fEq (wG (noRaiseM F_least_of) 1 0 [0] (wCons (wTup (wCons (wVar 4) (wCons (wVar 3) (wCons (wVar 4) wNil)))) wNil) wNil) (wVar 3)) (wOp fEq (wG (noRaiseM F_greatest_of) 1 0 [0] (wCons (wTup (wCons (wVar 3) (wCons (wVar 4) (wCons (wVar 3) wNil)))) wNil) wNil) (wVar 4))))))))

theorem fit_dQ (q : Rat) : Fit (dQ q) := fit_of (fit_dF _)
theorem near_end {x y : Rat} {a b : Int} {Φ : PyData → Prop} (hxy : x < y) (sx : Sz 4000 x) (sy : Sz 4000 y) (h : Φ (.bool true)) : wk__law_near_right_2 (retX Φ) [.m, .d (.int a), .d (.int b), .d (dQ x), .d (dQ y)] := by
  have up : ∀ {q : Rat}, Sz 4000 q → Sz 9000 q := fun z => z.mono (by omega)
  refine sq ⟨rfl, rfl, x, y, rfl, up sx, up sy, ?_⟩
  rw [decide_eq_true hxy]
  refine ⟨rfl, rfl, y, x, rfl, up sy, up sx, ?_⟩
  rw [decide_eq_false (Rat.not_lt.mpr (Rat.le_of_lt hxy))]
  show wk__law_near_right_1 (retX Φ) [.m, .d (.int a), .d (.int b), .d (dQ x), .d (dQ y)]
  have szs : ∀ {xs : List Rat}, (∀ z ∈ xs, z = x ∨ z = y) → ∀ z ∈ xs, Sz 4000 z := fun hz z hm => (hz z hm).elim (fun e => by rw [e]; exact sx) fun e => by rw [e]; exact sy
  have m1 : ∀ z ∈ [y, x, y], z = x ∨ z = y := fun z hz => by
    simp only [List.mem_cons, List.not_mem_nil, or_false] at hz
    rcases hz with z | z | z <;> simp [z]
  have m2 : ∀ z ∈ [x, y, x], z = x ∨ z = y := fun z hz => by
    simp only [List.mem_cons, List.not_mem_nil, or_false] at hz
    rcases hz with z | z | z <;> simp [z]
  refine ⟨(by decide : 3 ≤ 100000), rfl, rfl, [y, x, y], rfl, (by show 3 ≤ 100; decide), szs m1, (fun e => nomatch e), fun m hm hle => ⟨fit_dQ _, fit_dQ _, ?_⟩⟩
  have e1 : m = x := by
    rcases m1 m hm with z | z
    · exact z
    · have := hle x (List.mem_cons_of_mem _ List.mem_cons_self)
      rw [z] at this
      exact absurd hxy (Rat.not_lt.mpr this)
  rw [eqv_dQ, decide_eq_true e1]
  refine ⟨(by decide : 3 ≤ 100000), rfl, rfl, [x, y, x], rfl, (by show 3 ≤ 100; decide), szs m2, (fun e => nomatch e), fun m hm hle => ⟨fit_dQ _, fit_dQ _, ?_⟩⟩
  have e2 : m = y := by
    rcases m2 m hm with z | z
    · have := hle y (List.mem_cons_of_mem _ List.mem_cons_self)
      rw [z] at this
      exact absurd hxy (Rat.not_lt.mpr this)
    · exact z
  rw [eqv_dQ, decide_eq_true e2]
  exact h
theorem gcd_next {m : Int} (h : 0 < m) : Nat.gcd (m - 1).natAbs m.natAbs = 1 := by
  have k1 : ((Nat.gcd (m - 1).natAbs m.natAbs : Nat) : Int) ∣ m - 1 := Int.ofNat_dvd_left.mpr (Nat.gcd_dvd_left _ _)
  have k2 : ((Nat.gcd (m - 1).natAbs m.natAbs : Nat) : Int) ∣ m := Int.ofNat_dvd_left.mpr (Nat.gcd_dvd_right _ _)
  have k3 : ((Nat.gcd (m - 1).natAbs m.natAbs : Nat) : Int) ∣ 1 := by
    have := Int.dvd_sub k2 k1
    rw [show m - (m - 1) = 1 by omega] at this
    exact this
  have k4 : Nat.gcd (m - 1).natAbs m.natAbs ∣ 1 := by exact_mod_cast k3
  exact Nat.dvd_one.mp k4
theorem sem__law_near_right (ds : List PyData) (Φ : PyData → Prop) (h : F__law_near_right ds Φ) : ws__law_near_right (retX Φ) (ev1 5 ds) := by
  obtain ⟨rfl, h⟩ := h
  refine sq ⟨⟨by decide, by decide, by decide⟩, rfl, 1000, rfl, by decide, by decide, fun r r0 r1 => ⟨rfl, 2, rfl, by decide, by decide, fun b b0 b1 => ⟨rfl, ⟨(by decide : 2 ≤ 100000), fun j hj => ?_⟩, ?_⟩⟩⟩
  · have : j = 1 ∨ j = 2 := by simpa using hj
    show j < 5
    omega
  have em : (10 : Int) ^ Int.toNat 9 - 1 - r = 999999999 - r := rfl
  show wk__law_near_right_4 (retX Φ) [.m, .d (.int ((10 : Int) ^ Int.toNat 9 - 1 - r)), .d (.int b), .u, .u]
  rw [em]
  generalize hm : 999999999 - r = m
  have m0 : 1000 < m := by omega
  have m1 : m < 1000000000 := by omega
  have g1 := gcd_next (m := m) (by omega)
  have g2 := gcd_next (m := m + 1) (by omega)
  rw [show m + 1 - 1 = m by omega] at g2
  have e1 : PyData.tuple [.int (m - 1), .int m] = dQ (vF (m - 1, m)) := Good_q (x := (m - 1, m)) (by show 0 < m; omega) g1
  have e2 : PyData.tuple [.int m, .int (m + 1)] = dQ (vF (m, m + 1)) := Good_q (x := (m, m + 1)) (by show 0 < m + 1; omega) g2
  have sm : ∀ {v : Int}, v.natAbs < 2 ^ 40 → v.natAbs < 2 ^ 4000 := fun z => Nat.lt_of_lt_of_le z (p2 (by decide))
  have s1 : Sz 4000 (vF (m - 1, m)) := Sz.div (by omega) (sm (by omega)) (sm (by omega))
  have s2 : Sz 4000 (vF (m, m + 1)) := Sz.div (by omega) (sm (by omega)) (sm (by omega))
  have lt : vF (m - 1, m) < vF (m, m + 1) := by
    refine Rat.not_le.mp fun z => ?_
    have := (Rat_le_div (a := (m, m + 1)) (b := (m - 1, m)) (by show 0 < m + 1; omega) (by show 0 < m; omega)).mp z
    have : m * m ≤ (m - 1) * (m + 1) := this
    have e : (m - 1) * (m + 1) = m * m - 1 := by grind
    omega
  refine sq ⟨(by decide : 2 ≤ 100000), (by decide : 2 ≤ 100000), rfl, ⟨(by decide : 2 ≤ 100000), fun j hj => ?_⟩, ?_⟩
  · have : j = 3 ∨ j = 4 := by simpa using hj
    show j < 5
    omega
  show wk__law_near_right_3 (retX Φ) [.m, .d (.int m), .d (.int b), .d (.tuple [.int (m - 1), .int m]), .d (.tuple [.int m, .int (m + 1)])]
  refine sq ⟨fit_int _, fit_int _, ?_⟩
  rw [eqv_int]
  by_cases c : b = 1
  · rw [decide_eq_true c]
    refine ⟨(by decide : 2 ≤ 100000), rfl, rfl, some (vF (m, m + 1)), by rw [e2]; rfl, (by decide : 2 ≤ 100000), rfl, rfl, some (vF (m - 1, m)), by rw [e1]; rfl, rfl, ⟨(by decide : 2 ≤ 100000), fun j hj => ?_⟩, ?_⟩
    · have : j = 3 ∨ j = 4 := by simpa using hj
      show j < 5
      omega
    exact near_end (x := -vF (m, m + 1)) (y := -vF (m - 1, m)) (by grind) s2.neg s1.neg h
  · rw [decide_eq_false c, e1, e2]
    exact near_end lt s1 s2 h

theorem dv__law_near_right (T : Tx W mg) {er : Errs} (c__law_take : Cal P w W.K mg base 1 "_law_take" s__law_take ["_law_box_here", "_law_many"] (spN W RR 1 2 F__law_take)) (c__law_turn : Cal P w W.K mg base 1 "_law_turn" s__law_turn ["_law_end_here"] (spP W 1 F__law_turn)) (c_greatest_of : CalX P w W.K mg base 3 "greatest_of" s_greatest_of ["some"] (spXM W er 1 F_greatest_of)) (c_least_of : CalX P w W.K mg base 3 "least_of" s_least_of ["some"] (spXM W er 1 F_least_of)) (c_less : Cal P w W.K mg base 1 "less" s_less ["one", "other"] (spP W 2 F_less)) (cdv : Value) (A : Around) (env : List Env) (s : Shared) (H : Hp) (E : XK) (N0 : Addr → Prop) (b c : Addr) {f : Addr} (hr : Rg 3 (A.deeper (envOfC "_law_near_right" (defScope s__law_near_right) s.heap.objs.size f cdv))) :
    PSs (cxOf CX0 P w W.K mg base ["_law_box_here", "_law_many", "_law_below", "_law_near", "_law_far"] "_law_near_right" (defScope s__law_near_right) f cdv A env s H E).nox (defBody s__law_near_right) (uS ⟨W, RR b c, N0, H⟩ 2 wr__law_near_right) := by
  have hu : (A.deeper (envOfC "_law_near_right" (defScope s__law_near_right) s.heap.objs.size f cdv)).units + 65 < cLine := by have := hr.room.un; omega
  have nd := sc__law_near_right.nd
  exact (nss_le (nss_cons (ns_par2 1 2 rfl nd (np_d (ne_op op_sub (fun _ => od_sub (s := true)) (ne_lift fun _ => (de_op op_sub (od_sub (s := true)) (de_op op_pow (od_pow (s := true)) (de_int (s := true)) (de_int (s := true))) (de_int (s := true)))) (ne_callR 0 c__law_take rfl rfl hr (kb__law_take_2) (by decide) (by rfl) (na_lift fun _ => (da_cons (de_int (s := true)) (da_nil (s := true)))))) (np_d (ne_callR 0 c__law_take rfl rfl hr (kb__law_take_2) (by decide) (by rfl) (na_lift fun _ => (da_cons (de_int (s := true)) (da_nil (s := true))))) np_nil)))
  (nss_cons (ns_lift fun _ => (ds_par2 3 4 rfl nd (ea_d (de_tup (da_cons (de_op op_sub (od_sub (s := true)) (de_var 1) (de_int (s := true))) (da_cons (de_var 1) (da_nil (s := true))))) (ea_d (de_tup (da_cons (de_var 1) (da_cons (de_op op_addU (od_add (s := true)) (de_var 1) (de_int (s := true))) (da_nil (s := true))))) ea_nil))))
  (nss_cons (ns_lift fun _ => (ds_if (dt_cmp (op_eqU hu) od_eq (de_var 2) (de_int (s := true)) (nomark _)) (dss_one (ds_par2 3 4 rfl nd (ea_d (de_callP c__law_turn rfl hr kb__law_turn_1 (by decide) (by rfl) (da_cons (de_tup (da_cons (de_var 1) (da_cons (de_op op_addU (od_add (s := true)) (de_var 1) (de_int (s := true))) (da_nil (s := true))))) (da_nil (s := true)))) (ea_d (de_callP c__law_turn rfl hr kb__law_turn_1 (by decide) (by rfl) (da_cons (de_tup (da_cons (de_op op_sub (od_sub (s := true)) (de_var 1) (de_int (s := true))) (da_cons (de_var 1) (da_nil (s := true))))) (da_nil (s := true)))) ea_nil)))) dss_nil))
  (nss_cons (ns_lift fun _ => (ds_if (dt_pw (dw_or (dt_cmp op_isnotU od_isnot (de_callP c_less rfl hr kb_less_2 (by decide) (by rfl) (da_cons (de_var 3) (da_cons (de_var 4) (da_nil (s := true))))) (de_bl (s := true)) (nomark _)) (dw_or1 (dt_cmp op_isnotU od_isnot (de_callP c_less rfl hr kb_less_2 (by decide) (by rfl) (da_cons (de_var 4) (da_cons (de_var 3) (da_nil (s := true))))) (de_bl (s := true)) (nomark _))))) (dss_one (ds_ret (de_bl (s := true)))) dss_nil))
  (nss_one (ns_lift fun _ => (ds_ret (de_and (de_cmp (op_eqU hu) (od_eq (s := true)) (de_callXMP c_least_of rfl hr kb_least_of_1 (by decide) (by rfl) (da_cons (de_tup (da_cons (de_var 4) (da_cons (de_var 3) (da_cons (de_var 4) (da_nil (s := true)))))) (da_nil (s := true)))) (de_var 3) (nomark _)) (de_one (de_cmp (op_eqU hu) (od_eq (s := true)) (de_callXMP c_greatest_of rfl hr kb_greatest_of_1 (by decide) (by rfl) (da_cons (de_tup (da_cons (de_var 3) (da_cons (de_var 4) (da_cons (de_var 3) (da_nil (s := true)))))) (da_nil (s := true)))) (de_var 4) (nomark _))))))))))) (by decide))
theorem ok__law_near_right (T : Tx W mg) {er : Errs} (c__law_take : Cal P w W.K mg base 1 "_law_take" s__law_take ["_law_box_here", "_law_many"] (spN W RR 1 2 F__law_take)) (c__law_turn : Cal P w W.K mg base 1 "_law_turn" s__law_turn ["_law_end_here"] (spP W 1 F__law_turn)) (c_greatest_of : CalX P w W.K mg base 3 "greatest_of" s_greatest_of ["some"] (spXM W er 1 F_greatest_of)) (c_least_of : CalX P w W.K mg base 3 "least_of" s_least_of ["some"] (spXM W er 1 F_least_of)) (c_less : Cal P w W.K mg base 1 "less" s_less ["one", "other"] (spP W 2 F_less)) {f : Addr} {fd : FuncData} (Fn : Fun W.K "_law_near_right" "_law_near_right" s__law_near_right f fd) : FnG P w W.K mg base CX0 4 f fd ["_law_box_here"] (spN W RR 2 1 F__law_near_right) :=
  ok_drawN Fn sc__law_near_right (by decide) (fun ds Φ h => len__law_near_right h) fun cdv A env s H E N0 b c hr => ⟨wr__law_near_right, dv__law_near_right T c__law_take c__law_turn c_greatest_of c_least_of c_less cdv A env s H E N0 b c hr, fun ds Φ h => sem__law_near_right ds Φ h⟩

def F__law_ranges_right : FD := fun ds Φ => ds = [] ∧ Φ (.bool true)
theorem len__law_ranges_right {ds Φ} (h : F__law_ranges_right ds Φ) : ds.length + 1 = 1 := by obtain ⟨e, _⟩ := h; rw [e]; rfl
-- slots of _law_ranges_right: 0 _law_box_here, 1 _law_found, 2 _law_left, 3 _law_right, 4 _law_low, 5 _law_high, 6 _law_over, 7 _law_wrong, 8 _law_item
def wk__law_ranges_right_0 : WS :=
  (wApp 7 (wThunk none [("InvalidNumber", "number"), ("Refused", "refused")] (wGEM F_simplest 2 0 [0, 1] (wCons (wVar 5) (wCons (wVar 4) wNil)) wNil)))
def wk__law_ranges_right_1 : WS :=
  (wRet (wCall fAll (wCons (wFv (wLc (wListI (wVar 7)) (gN 8) wYes (wOp fEq (wVar 8) (wTup (wCons (wC (.str "refused")) (wCons (wC (.str "none")) wNil)))) [8])) wNil)))
def wk__law_ranges_right_2 : WS :=
  (wSq (wIf (wAnd (wTest (wOp fIsNot (wVar 5) (wC .none))) (wTest (wOp fNe (wVar 5) (wVar 4))))
  wk__law_ranges_right_0
  wNx)
  (wFrz 7
  wk__law_ranges_right_1))
def wk__law_ranges_right_3 : WS :=
  (wSq (wFst 7 (wFl (wCons (wThunk none [("InvalidNumber", "number"), ("Refused", "refused")] (wGEM F_simplest 2 0 [0, 1] (wCons (wVar 4) (wCons (wG F__law_turn 1 0 [0] (wCons (wVar 4) wNil) wNil) wNil)) wNil)) wNil)))
  wk__law_ranges_right_2)
def wk__law_ranges_right_4 : WS :=
  (wSq (wIf (wOr (wTest (wOp fNe (wG (noRaiseM F_simplest) 2 0 [0, 1] (wCons (wVar 4) (wCons (wC .none) wNil)) wNil) (wTup (wCons (wVar 6) (wCons (wC (.int 1)) wNil))))) (wTest (wOp fNe (wG (noRaiseM F_simplest) 2 0 [0, 1] (wCons (wC .none) (wCons (wG F__law_turn 1 0 [0] (wCons (wVar 4) wNil) wNil) wNil)) wNil) (wTup (wCons (wOp fSub (wC (.int 0)) (wVar 6)) (wCons (wC (.int 1)) wNil))))))
  (wRet (wC (.bool false)))
  wNx)
  wk__law_ranges_right_3)
def wk__law_ranges_right_5 : WS :=
  (wSq (wSet 6 (wOp fSub (wC (.int 0)) (wOp fDiv (wOp fSub (wC (.int 0)) (wOp fIx (wVar 4) (wC (.int 0)))) (wOp fIx (wVar 4) (wC (.int 1))))))
  wk__law_ranges_right_4)
def wk__law_ranges_right_6 : WS :=
  (wSq (wIf (wOr (wTest (wOp fNe (wG (noRaiseM F_simplest) 2 0 [0, 1] (wCons (wTup (wCons (wC (.int 0)) (wCons (wC (.int 1)) wNil))) (wCons (wVar 4) wNil)) wNil) (wTup (wCons (wC (.int 0)) (wCons (wC (.int 1)) wNil))))) (wOr (wTest (wOp fNe (wG (noRaiseM F_simplest) 2 0 [0, 1] (wCons (wG F__law_turn 1 0 [0] (wCons (wVar 4) wNil) wNil) (wCons (wTup (wCons (wC (.int 0)) (wCons (wC (.int 1)) wNil))) wNil)) wNil) (wTup (wCons (wC (.int 0)) (wCons (wC (.int 1)) wNil))))) (wTest (wOp fNe (wG (noRaiseM F_simplest) 2 0 [0, 1] (wCons (wC .none) (wCons (wC .none) wNil)) wNil) (wTup (wCons (wC (.int 0)) (wCons (wC (.int 1)) wNil)))))))
  (wRet (wC (.bool false)))
  wNx)
  wk__law_ranges_right_5)
def wk__law_ranges_right_7 : WS :=
  (wSq (wIf (wOr (wTest (wOp fNe (wG (noRaiseM F_simplest) 2 0 [0, 1] (wCons (wG F__law_turn 1 0 [0] (wCons (wVar 4) wNil) wNil) (wCons (wVar 5) wNil)) wNil) (wTup (wCons (wC (.int 0)) (wCons (wC (.int 1)) wNil))))) (wOr (wTest (wOp fNe (wG (noRaiseM F_simplest) 1 1 [0, 1] (wCons (wC .none) wNil) (wCons (wVar 5) wNil)) (wTup (wCons (wC (.int 0)) (wCons (wC (.int 1)) wNil))))) (wTest (wOp fNe (wG (noRaiseM F_simplest) 2 0 [0, 1] (wCons (wG F__law_turn 1 0 [0] (wCons (wVar 4) wNil) wNil) (wCons (wC .none) wNil)) wNil) (wTup (wCons (wC (.int 0)) (wCons (wC (.int 1)) wNil)))))))
  (wRet (wC (.bool false)))
  wNx)
  wk__law_ranges_right_6)
def wk__law_ranges_right_8 : WS :=
  (wSq (wIf (wOr (wTest (wOp fNe (wG (noRaiseM F_simplest) 0 2 [0, 1] wNil (wCons (wVar 1) (wCons (wVar 1) wNil))) (wVar 1))) (wNot (wTest (wG F__law_none_less 3 0 [0, 1, 2] (wCons (wVar 1) (wCons (wVar 4) (wCons (wVar 5) wNil))) wNil))))
  (wRet (wC (.bool false)))
  wNx)
  wk__law_ranges_right_7)
def wk__law_ranges_right_9 : WS :=
  (wSq (wIf (wOr (wTest (wOp fNe (wG (noRaiseM F_simplest) 2 0 [0, 1] (wCons (wVar 4) (wCons (wVar 5) wNil)) wNil) (wVar 1))) (wTest (wOp fNe (wG (noRaiseM F_simplest) 2 0 [0, 1] (wCons (wG F__law_turn 1 0 [0] (wCons (wVar 5) wNil) wNil) (wCons (wG F__law_turn 1 0 [0] (wCons (wVar 4) wNil) wNil) wNil)) wNil) (wG F__law_turn 1 0 [0] (wCons (wVar 1) wNil) wNil))))
  (wRet (wC (.bool false)))
  wNx)
  wk__law_ranges_right_8)
def wk__law_ranges_right_10 : WS :=
  (wSq (wIf (wAnd (wTest (wOp fEq (wOp fIx (wVar 3) (wC (.int 1))) (wC (.int 0)))) (wTest (wOp fEq (wGR 0 F__law_take 2 (wCons (wC (.int 2)) wNil)) (wC (.int 0)))))
  (wSet 5 (wC .none))
  wNx)
  wk__law_ranges_right_9)
def wk__law_ranges_right_11 : WS :=
  (wSq (wPars [4, 5] (wEd (wGR 0 F__law_end 3 (wCons (wVar 1) (wCons (wVar 2) wNil))) (wEd (wGR 0 F__law_end 3 (wCons (wVar 1) (wCons (wVar 3) wNil))) wEn)))
  wk__law_ranges_right_10)
def wk__law_ranges_right_12 : WS :=
  (wSq (wAs (wGR 0 F__law_way 1 wNil) (gT 3 (gsCons (gN 1) (gsCons (gN 2) (gsCons (gN 3) gsNil)))))
  wk__law_ranges_right_11)
def ws__law_ranges_right : WS :=
  wk__law_ranges_right_12
def wr__law_ranges_right : WS :=
  (wSq (wAs (wGR 0 F__law_way 1 wNil) (gT 3 (gsCons (gN 1) (gsCons (gN 2) (gsCons (gN 3) gsNil)))))
  (wSq (wPars [4, 5] (wEd (wGR 0 F__law_end 3 (wCons (wVar 1) (wCons (wVar 2) wNil))) (wEd (wGR 0 F__law_end 3 (wCons (wVar 1) (wCons (wVar 3) wNil))) wEn)))
  (wSq (wIf (wAnd (wTest (wOp fEq (wOp fIx (wVar 3) (wC (.int 1))) (wC (.int 0)))) (wTest (wOp fEq (wGR 0 F__law_take 2 (wCons (wC (.int 2)) wNil)) (wC (.int 0)))))
  (wSet 5 (wC .none))
  wNx)
  (wSq (wIf (wOr (wTest (wOp fNe (wG (noRaiseM F_simplest) 2 0 [0, 1] (wCons (wVar 4) (wCons (wVar 5) wNil)) wNil) (wVar 1))) (wTest (wOp fNe (wG (noRaiseM F_simplest) 2 0 [0, 1] (wCons (wG F__law_turn 1 0 [0] (wCons (wVar 5) wNil) wNil) (wCons (wG F__law_turn 1 0 [0] (wCons (wVar 4) wNil) wNil) wNil)) wNil) (wG F__law_turn 1 0 [0] (wCons (wVar 1) wNil) wNil))))
  (wRet (wC (.bool false)))
  wNx)
  (wSq (wIf (wOr (wTest (wOp fNe (wG (noRaiseM F_simplest) 0 2 [0, 1] wNil (wCons (wVar 1) (wCons (wVar 1) wNil))) (wVar 1))) (wNot (wTest (wG F__law_none_less 3 0 [0, 1, 2] (wCons (wVar 1) (wCons (wVar 4) (wCons (wVar 5) wNil))) wNil))))
  (wRet (wC (.bool false)))
  wNx)
  (wSq (wIf (wOr (wTest (wOp fNe (wG (noRaiseM F_simplest) 2 0 [0, 1] (wCons (wG F__law_turn 1 0 [0] (wCons (wVar 4) wNil) wNil) (wCons (wVar 5) wNil)) wNil) (wTup (wCons (wC (.int 0)) (wCons (wC (.int 1)) wNil))))) (wOr (wTest (wOp fNe (wG (noRaiseM F_simplest) 1 1 [0, 1] (wCons (wC .none) wNil) (wCons (wVar 5) wNil)) (wTup (wCons (wC (.int 0)) (wCons (wC (.int 1)) wNil))))) (wTest (wOp fNe (wG (noRaiseM F_simplest) 2 0 [0, 1] (wCons (wG F__law_turn 1 0 [0] (wCons (wVar 4) wNil) wNil) (wCons (wC .none) wNil)) wNil) (wTup (wCons (wC (.int 0)) (wCons (wC (.int 1)) wNil)))))))
  (wRet (wC (.bool false)))
  wNx)
  (wSq (wIf (wOr (wTest (wOp fNe (wG (noRaiseM F_simplest) 2 0 [0, 1] (wCons (wTup (wCons (wC (.int 0)) (wCons (wC (.int 1)) wNil))) (wCons (wVar 4) wNil)) wNil) (wTup (wCons (wC (.int 0)) (wCons (wC (.int 1)) wNil))))) (wOr (wTest (wOp fNe (wG (noRaiseM F_simplest) 2 0 [0, 1] (wCons (wG F__law_turn 1 0 [0] (wCons (wVar 4) wNil) wNil) (wCons (wTup (wCons (wC (.int 0)) (wCons (wC (.int 1)) wNil))) wNil)) wNil) (wTup (wCons (wC (.int 0)) (wCons (wC (.int 1)) wNil))))) (wTest (wOp fNe (wG (noRaiseM F_simplest) 2 0 [0, 1] (wCons (wC .none) (wCons (wC .none) wNil)) wNil) (wTup (wCons (wC (.int 0)) (wCons (wC (.int 1)) wNil)))))))
  (wRet (wC (.bool false)))
  wNx)
  (wSq (wSet 6 (wOp fSub (wC (.int 0)) (wOp fDiv (wOp fSub (wC (.int 0)) (wOp fIx (wVar 4) (wC (.int 0)))) (wOp fIx (wVar 4) (wC (.int 1))))))
  (wSq (wIf (wOr (wTest (wOp fNe (wG (noRaiseM F_simplest) 2 0 [0, 1] (wCons (wVar 4) (wCons (wC .none) wNil)) wNil) (wTup (wCons (wVar 6) (wCons (wC (.int 1)) wNil))))) (wTest (wOp fNe (wG (noRaiseM F_simplest) 2 0 [0, 1] (wCons (wC .none) (wCons (wG F__law_turn 1 0 [0] (wCons (wVar 4) wNil) wNil) wNil)) wNil) (wTup (wCons (wOp fSub (wC (.int 0)) (wVar 6)) (wCons (wC (.int 1)) wNil))))))
  (wRet (wC (.bool false)))
  wNx)
  (wSq (wFst 7 (wFl (wCons (wThunk none [("InvalidNumber", "number"), ("Refused", "refused")] (wGEM F_simplest 2 0 [0, 1] (wCons (wVar 4) (wCons (wG F__law_turn 1 0 [0] (wCons (wVar 4) wNil) wNil) wNil)) wNil)) wNil)))
  (wSq (wIf (wAnd (wTest (wOp fIsNot (wVar 5) (wC .none))) (wTest (wOp fNe (wVar 5) (wVar 4))))
  (wApp 7 (wThunk none [("InvalidNumber", "number"), ("Refused", "refused")] (wGEM F_simplest 2 0 [0, 1] (wCons (wVar 5) (wCons (wVar 4) wNil)) wNil)))
  wNx)
  (wFrz 7
  (wRet (wCall fAll (wCons (wFv (wLc (wListI (wVar 7)) (gN 8) wYes (wOp fEq (wVar 8) (wTup (wCons (wC (.str "refused")) (wCons (wC (.str "none")) wNil)))) [8])) wNil)))))))))))))))

theorem F_simp {lo hi : Option Rat} {Φ : PyData → Prop} (v : Rat) (ds : List PyData) (e : ds = [dE lo, dE hi]) (sl : SzE 4000 lo) (sh : SzE 4000 hi) (ok : ∀ l h, lo = some l → hi = some h → l ≤ h) (uq : ∀ q, InR lo hi q → LeastR lo hi q → q = v) (h : Φ (dQ v)) : noRaiseM F_simplest ds Φ :=
  ⟨lo, hi, 4000, e, sl, sh, by decide, Nat.le_refl _, fun ⟨l, r, e1, e2, c⟩ => absurd c (Rat.not_lt.mpr (ok l r e1 e2)), fun _ q i _ ls => by rw [uq q i ls]; exact h⟩
theorem ne_self {v : Rat} {Φ : PyData → Prop} (h : Φ (.bool false)) : fNe (dQ v) (dQ v) Φ := fNe_i (fit_dQ v) (fit_dQ v) (by rw [eqv_dQ, decide_eq_true rfl]; exact h)
theorem szE_some {n : Nat} {q : Rat} (h : Sz n q) : SzE n (some q) := fun _ e => by cases e; exact h
theorem szE_none {n : Nat} : SzE n none := fun _ e => nomatch e
theorem szE_neg {n : Nat} {o : Option Rat} (h : SzE n o) : SzE n (negE o) := fun q e => by
  cases o with
  | none => cases e
  | some r => cases e; exact (h r rfl).neg
theorem dQ_int (k : Int) : PyData.tuple [.int k, .int 1] = dQ (k : Rat) := rfl
theorem ceil_uniq {l : Rat} (l0 : 0 < l) {q : Rat} (i : InR (some l) none q) (ls : LeastR (some l) none q) : q = ((0 - (0 - l.num).fdiv (l.den : Int) : Int) : Rat) := by
  have ld := den_pos l
  have lp := Rat_num_pos l0
  obtain ⟨s1, s2⟩ := ceil_spec (p := cF l) ld
  have ec : ceilF (cF l) = 0 - (0 - l.num).fdiv (l.den : Int) := by
    unfold ceilF
    rw [Int.zero_sub, Int.zero_sub]
    rfl
  rw [ec] at s1 s2
  generalize 0 - (0 - l.num).fdiv (l.den : Int) = k at s1 s2 ⊢
  have s1 : l.num ≤ k * (l.den : Int) := s1
  have s2 : (k - 1) * (l.den : Int) < l.num := s2
  have kr : InR (some l) none (k : Rat) := ⟨fun l' e => by cases e; exact (Rat.le_iff l (k : Rat)).mpr (by rw [Rat.num_intCast, Rat.den_intCast]; show l.num * 1 ≤ _; omega), fun _ e => (by cases e)⟩
  obtain ⟨g1, g2⟩ := ls (k : Rat) kr
  rw [Rat.num_intCast] at g1
  rw [Rat.den_intCast] at g2
  have qd : q.den = 1 := by have := q.den_pos; omega
  have lq := (Rat.le_iff l q).mp (i.lo l rfl)
  rw [qd] at lq
  have lq : l.num ≤ q.num * (l.den : Int) := by
    have : l.num * ((1 : Nat) : Int) ≤ q.num * (l.den : Int) := lq
    omega
  have k1 : k - 1 < q.num := Int.lt_of_mul_lt_mul_right (a := (l.den : Int)) (by omega) (by omega)
  have k0 : 0 < k := by
    rcases Int.lt_or_le 0 k with z | z
    · exact z
    · have : k * (l.den : Int) ≤ 0 * (l.den : Int) := Int.mul_le_mul_of_nonneg_right z (by omega)
      omega
  exact rat_ext (by rw [Rat.num_intCast]; omega) (by rw [Rat.den_intCast]; exact qd)
theorem ceil_turned {l : Rat} (l0 : 0 < l) {q : Rat} (i : InR none (some (-l)) q) (ls : LeastR none (some (-l)) q) : q = ((0 - (0 - (0 - l.num).fdiv (l.den : Int)) : Int) : Rat) := by
  have e := ceil_uniq l0 (q := -q) ⟨fun l' e => by cases e; have := i.hi (-l) rfl; grind, fun r e => (by cases e)⟩ (least_neg (lo := some l) (hi := none) ls)
  rw [Int.zero_sub, Rat.intCast_neg, ← e, Rat.neg_neg]
theorem fit_ref : Fit (.tuple [.str "refused", .str "none"]) := by
  unfold Fit
  simp [dOk, dOkA]
  decide +kernel
theorem rng_main {f l : Rat} {h : Option Rat} (bt : Btw f l h) (sf : Sz 4000 f) (sl : Sz 4000 l) (sh : SzE 4000 h) {x2 x3 : PyData} {Φ : PyData → Prop} (hΦ : Φ (.bool true)) :
    wk__law_ranges_right_9 (retX Φ) [.m, .d (dQ f), .d x2, .d x3, .d (dQ l), .d (dE h), .u, .u, .u] := by
  have hn : ∀ r, h = some r → l ≤ r := fun r e => Rat.le_trans bt.le (bt.hi r e)
  have l0 := bt.lo
  have hp : ∀ r, h = some r → 0 ≤ r := fun r e => Rat.le_trans (Rat.le_of_lt l0) (hn r e)
  have up : ∀ {o : Option Rat}, SzE 4000 o → SzE 4000 o := id
  have sl' := szE_some sl
  have snl : SzE 4000 (some (-l)) := szE_some sl.neg
  have s0 : SzE 4000 (some 0) := szE_some (Sz.zero (by decide))
  have two : 2 ≤ 100000 := by decide
  -- the range and its turned one
  refine sq ⟨rfl, rfl, F_simp f (lo := some l) (hi := h) _ rfl sl' sh (fun l' r e1 e2 => by cases e1; exact hn r e2) (fun q i ls => bt.uniq i ls) (var_at rfl (ne_self ?_))⟩
  refine ⟨rfl, rfl, h, rfl, rfl, rfl, some l, rfl, rfl, rfl, F_simp (-f) (lo := negE h) (hi := some (-l)) _ rfl (szE_neg sh) snl (fun l' r e1 e2 => ?_) (fun q i ls => bt.turned i ls) ⟨rfl, rfl, some f, rfl, ne_self ?_⟩⟩
  · cases e2
    cases h with
    | none => cases e1
    | some r => cases e1; have := hn r rfl; grind
  show wk__law_ranges_right_8 (retX Φ) [.m, .d (dQ f), .d x2, .d x3, .d (dQ l), .d (dE h), .u, .u, .u]
  refine sq ⟨rfl, rfl, F_simp f (lo := some f) (hi := some f) _ rfl (szE_some sf) (szE_some sf) (fun l' r e1 e2 => by cases e1; cases e2; exact Rat.le_refl) (fun q i ls => Rat.le_antisymm (i.hi f rfl) (i.lo f rfl)) (var_at rfl (ne_self ?_))⟩
  refine ⟨rfl, rfl, f, l, h, rfl, bt, sf, sl, sh, ?_⟩
  show wk__law_ranges_right_7 (retX Φ) [.m, .d (dQ f), .d x2, .d x3, .d (dQ l), .d (dE h), .u, .u, .u]
  refine sq ⟨rfl, rfl, some l, rfl, rfl, rfl, F_simp 0 (lo := some (-l)) (hi := h) _ rfl snl sh (fun l' r e1 e2 => by cases e1; have := hp r e2; grind) (fun q i ls => zero_uniq ⟨fun l' e => by cases e; grind, hp⟩ ls) ⟨two, ne_self ?_⟩⟩
  refine ⟨rfl, rfl, F_simp 0 (lo := none) (hi := h) _ rfl szE_none sh (fun l' r e1 e2 => (nomatch e1)) (fun q i ls => zero_uniq ⟨fun l' e => (by cases e), hp⟩ ls) ⟨two, ne_self ?_⟩⟩
  refine ⟨rfl, rfl, some l, rfl, rfl, rfl, F_simp 0 (lo := some (-l)) (hi := none) _ rfl snl szE_none (fun l' r e1 e2 => (nomatch e2)) (fun q i ls => zero_uniq ⟨fun l' e => by cases e; grind, fun r e => (by cases e)⟩ ls) ⟨two, ne_self ?_⟩⟩
  show wk__law_ranges_right_6 (retX Φ) [.m, .d (dQ f), .d x2, .d x3, .d (dQ l), .d (dE h), .u, .u, .u]
  refine sq ⟨two, rfl, rfl, F_simp 0 (lo := some 0) (hi := some l) _ rfl s0 sl' (fun l' r e1 e2 => by cases e1; cases e2; exact Rat.le_of_lt l0) (fun q i ls => zero_uniq ⟨fun l' e => by cases e; exact Rat.le_refl, fun r e => by cases e; exact Rat.le_of_lt l0⟩ ls) ⟨two, ne_self ?_⟩⟩
  refine ⟨rfl, rfl, some l, rfl, two, rfl, rfl, F_simp 0 (lo := some (-l)) (hi := some 0) _ rfl snl s0 (fun l' r e1 e2 => by cases e1; cases e2; grind) (fun q i ls => zero_uniq ⟨fun l' e => by cases e; grind, fun r e => by cases e; exact Rat.le_refl⟩ ls) ⟨two, ne_self ?_⟩⟩
  refine ⟨rfl, rfl, F_simp 0 (lo := none) (hi := none) _ rfl szE_none szE_none (fun l' r e1 e2 => (nomatch e1)) (fun q i ls => zero_uniq ⟨fun l' e => (by cases e), fun r e => (by cases e)⟩ ls) ⟨two, ne_self ?_⟩⟩
  show wk__law_ranges_right_5 (retX Φ) [.m, .d (dQ f), .d x2, .d x3, .d (dQ l), .d (dE h), .u, .u, .u]
  have ld := den_pos l
  have cd : ((l.den : Int) ≠ 0 ∧ (l.den : Int).natAbs < 1073741824) ∨ (0 < (l.den : Int) ∧ (l.den : Int).natAbs.log2 < 9000) := .inr ⟨ld, (Nat.log2_lt (by omega)).mpr (le4 sl.2)⟩
  refine sq ⟨_, rfl, _, rfl, cd, ?_⟩
  have cu := fun {q : Rat} => ceil_uniq l0 (q := q)
  have ct := fun {q : Rat} => ceil_turned l0 (q := q)
  show wk__law_ranges_right_4 (retX Φ) [.m, .d (dQ f), .d x2, .d x3, .d (dQ l), .d (dE h), .d (.int (0 - (0 - l.num).fdiv (l.den : Int))), .u, .u]
  generalize 0 - (0 - l.num).fdiv (l.den : Int) = k at cu ct ⊢
  refine sq ⟨rfl, rfl, F_simp (k : Rat) (lo := some l) (hi := none) _ rfl sl' szE_none (fun l' r e1 e2 => (nomatch e2)) (fun q i ls => cu i ls) ⟨two, ?_⟩⟩
  rw [dQ_int]
  refine ne_self ?_
  refine ⟨rfl, rfl, some l, rfl, rfl, rfl, F_simp ((0 - k : Int) : Rat) (lo := none) (hi := some (-l)) _ rfl szE_none snl (fun l' r e1 e2 => (nomatch e1)) (fun q i ls => ct i ls) ⟨two, ?_⟩⟩
  rw [dQ_int]
  refine ne_self ?_
  show wk__law_ranges_right_3 (retX Φ) [.m, .d (dQ f), .d x2, .d x3, .d (dQ l), .d (dE h), .d (.int k), .u, .u]
  -- the refusals
  have none_ : ∀ {lo hi : Rat} {Φ : PyData → Prop} {Ψ : Str → PyData → Prop}, hi < lo → Sz 4000 lo → Sz 4000 hi → Ψ "Refused" (.str "none") → F_simplest [dQ lo, dQ hi] Φ Ψ := fun {lo hi Φ Ψ} c s1 s2 hΨ =>
    ⟨some lo, some hi, 4000, rfl, szE_some s1, szE_some s2, by decide, Nat.le_refl _, fun _ => hΨ, fun ok => absurd c (Rat.not_lt.mpr (ok lo hi rfl rfl))⟩
  have last : ∀ ws : List PyData, ws.length ≤ 2 → (∀ w ∈ ws, w = .tuple [.str "refused", .str "none"]) → wk__law_ranges_right_1 (retX Φ) [.m, .d (dQ f), .d x2, .d x3, .d (dQ l), .d (dE h), .d (.int k), .d (.list ws), .u] := by
    intro ws hl hw
    refine lc_map (ds := ws) (fun _ => .bool true) rfl (fun Ψ h => h) (by omega) (fun d hd Ψ q => ?_) ?_
    · rw [hw d hd]
      exact ⟨(by decide : 8 < 9), two, fit_ref, fit_ref, q⟩
    · refine ⟨ws.map fun _ => true, by rw [List.map_map]; rfl, ?_⟩
      have : (ws.map fun _ => true).all id = true := by simp
      rw [this]
      exact hΦ
  refine sq ⟨rfl, rfl, some l, rfl, rfl, rfl, none_ (lo := l) (hi := -l) (by grind) sl sl.neg ⟨"refused", rfl, (by show 1 ≤ 100000; decide), ?_⟩⟩
  show wk__law_ranges_right_2 (retX Φ) [.m, .d (dQ f), .d x2, .d x3, .d (dQ l), .d (dE h), .d (.int k), .o [.tuple [.str "refused", .str "none"]], .u]
  have one : wSq (wIf (wAnd (wTest (wOp fIsNot (wVar 5) (wC .none))) (wTest (wOp fNe (wVar 5) (wVar 4)))) wk__law_ranges_right_0 wNx) (wFrz 7 wk__law_ranges_right_1) (retX Φ) [.m, .d (dQ f), .d x2, .d x3, .d (dQ l), .d (dE h), .d (.int k), .o [.tuple [.str "refused", .str "none"]], .u] := by
    cases h with
    | none => exact last _ (by decide) fun w hw => List.mem_singleton.mp hw
    | some r =>
      have sr := sh r rfl
      refine sq ⟨fit_dQ r, fit_dQ l, ?_⟩
      show (if (!PyData.eqv (dQ r) (dQ l)) = true then _ else _)
      rw [eqv_dQ]
      by_cases c : r = l
      · rw [decide_eq_true c]
        exact last _ (by decide) fun w hw => List.mem_singleton.mp hw
      · rw [decide_eq_false c]
        have lr : l < r := Rat.lt_of_le_of_ne (hn r rfl) fun e => c e.symm
        refine ⟨rfl, rfl, none_ (lo := r) (hi := l) lr sr sl ⟨"refused", rfl, (by show 1 < 100000; decide), ?_⟩⟩
        exact last [.tuple [.str "refused", .str "none"], .tuple [.str "refused", .str "none"]] (by decide) fun w hw => by
          simp only [List.mem_cons, List.not_mem_nil, or_false] at hw
          rcases hw with rfl | rfl <;> rfl
  exact one
theorem sem__law_ranges_right (ds : List PyData) (Φ : PyData → Prop) (h : F__law_ranges_right ds Φ) : ws__law_ranges_right (retX Φ) (ev1 9 ds) := by
  obtain ⟨rfl, hΦ⟩ := h
  refine sq ⟨rfl, rfl, fun L R w z => ⟨rfl, (by decide : 1 < 9), (by decide : 2 < 9), (by decide : 3 < 9), ?_⟩⟩
  show wk__law_ranges_right_11 (retX Φ) [.m, .d (dF (midF L R)), .d (dF L), .d (dF R), .u, .u, .u, .u, .u]
  obtain ⟨w1, w2, w3, w4, _⟩ := id w
  have zL1 := sz_small w1 z.1 (by decide)
  have zL2 := sz_small (by omega) z.2.1 (by decide)
  have zR1 := sz_small (by omega) z.2.2.1 (by decide)
  have zR2 := sz_small w4 z.2.2.2 (by decide)
  have z' := fun {x y : Int} (hx : x ≤ 1001 ^ 6) (hy : y ≤ 1001 ^ 6) (h0 : 0 ≤ x + y) => sz_small (n := 7) (x := x + y) h0 (by
    have e : (1001 : Int) ^ 7 = 1001 ^ 6 * 1001 := Int.pow_succ _ _
    have : (0 : Int) ≤ 1001 ^ 6 := by decide
    omega) (by decide)
  have zM1 : (midF L R).1.natAbs < 2 ^ 200 := z' z.1 z.2.2.1 (by omega)
  have zM2 : (midF L R).2.natAbs < 2 ^ 200 := z' z.2.1 z.2.2.2 (by omega)
  have M2 : 0 < (midF L R).2 := by show 0 < L.2 + R.2; omega
  have up : ∀ {v : Int}, v.natAbs < 2 ^ 300 → v.natAbs < 2 ^ 4000 := fun z => Nat.lt_of_lt_of_le z (p2 (by decide))
  have endS : ∀ {a b : Int} {s : Fr2}, 1 ≤ a → 0 ≤ b → a ≤ 4 → b ≤ 4 → 0 ≤ s.2 → s.1.natAbs < 2 ^ 200 → s.2.natAbs < 2 ^ 200 → Sz 4000 (vF (endX a b (midF L R) s)) := fun {a b s} h1 h2 h3 h4 h5 h6 h7 => by
    have a3 : a.natAbs < 2 ^ 3 := by omega
    have b3 : b.natAbs < 2 ^ 3 := by omega
    have p : 0 < a * (midF L R).2 := Int.mul_pos (by omega) M2
    have q : 0 ≤ b * s.2 := Int.mul_nonneg h2 h5
    have e1 := add2i (mul2i a3 zM1) (mul2i b3 h6)
    have e2 := add2i (mul2i a3 zM2) (mul2i b3 h7)
    exact Sz.div (by show 0 < a * (midF L R).2 + b * s.2; omega) (up (Nat.lt_of_lt_of_le e1 (p2 (by decide)))) (up (Nat.lt_of_lt_of_le e2 (p2 (by decide))))
  refine sq ⟨rfl, midF L R, L, rfl, M2, by omega, zM1, zM2, zL1, zL2, fun a b ha hb ha4 hb4 => ⟨rfl, midF L R, R, rfl, M2, w4, zM1, zM2, zR1, zR2, fun c d hc hd hc4 hd4 => ⟨rfl, ⟨(by decide : 2 ≤ 100000), fun j hj => ?_⟩, ?_⟩⟩⟩
  · have : j = 4 ∨ j = 5 := by simpa using hj
    show j < 9
    omega
  have sM : Sz 4000 (vF (midF L R)) := Sz.div M2 (up (Nat.lt_of_lt_of_le zM1 (p2 (by decide)))) (up (Nat.lt_of_lt_of_le zM2 (p2 (by decide))))
  have sl := endS (s := L) ha hb ha4 hb4 (by omega) zL1 zL2
  have sr := endS (s := R) hc hd hc4 hd4 w4 zR1 zR2
  show wk__law_ranges_right_10 (retX Φ) [.m, .d (dF (midF L R)), .d (dF L), .d (dF R), .d (dQ (vF (endX a b (midF L R) L))), .d (dQ (vF (endX c d (midF L R) R))), .u, .u, .u]
  have main := fun (h : Option Rat) (hh : h = some (vF (endX c d (midF L R) R)) ∨ (h = none ∧ R.2 = 0)) (s : SzE 4000 h) => rng_main (w.btw ha hb hc hd hh) sM sl s (x2 := dF L) (x3 := dF R) hΦ
  rw [← w.good] at main
  have m1 := main _ (.inl rfl) (szE_some sr)
  refine sq ⟨_, rfl, fit_int _, fit_int _, ?_⟩
  rw [eqv_int]
  by_cases c0 : R.2 = 0
  · rw [decide_eq_true c0]
    refine ⟨rfl, 2, rfl, by decide, by decide, fun r r0 r1 => ⟨fit_int _, fit_int _, ?_⟩⟩
    rw [eqv_int]
    by_cases c1 : r = 0
    · rw [decide_eq_true c1]
      exact main none (.inr ⟨rfl, c0⟩) szE_none
    · rw [decide_eq_false c1]
      exact m1
  · rw [decide_eq_false c0]
    exact m1

theorem dv__law_ranges_right (T : Tx W mg) {er : Errs} (c__law_end : Cal P w W.K mg base 3 "_law_end" s__law_end ["_law_box_here", "_law_middle", "_law_side"] (spN W RR 2 3 F__law_end)) (c__law_none_less : Cal P w W.K mg base 1 "_law_none_less" s__law_none_less ["_law_found", "_law_low", "_law_high"] (spP W 3 F__law_none_less)) (c__law_take : Cal P w W.K mg base 1 "_law_take" s__law_take ["_law_box_here", "_law_many"] (spN W RR 1 2 F__law_take)) (c__law_turn : Cal P w W.K mg base 1 "_law_turn" s__law_turn ["_law_end_here"] (spP W 1 F__law_turn)) (c__law_way : Cal P w W.K mg base 2 "_law_way" s__law_way ["_law_box_here"] (spN W RR 17 1 F__law_way)) (c_simplest : CalX P w W.K mg base 3 "simplest" s_simplest ["low", "high"] (spXM W er 2 F_simplest)) (th__law_refused : CalTh P w W.K mg base "_law_refused" "_law_action" s__law_refused ["_law_action", "error"] er none [("InvalidNumber", "number"), ("Refused", "refused")]) {TT : List (Addr × Str)} (RT : ∀ b c n, ResT TT ((RR b c).at n)) {cL PL : Addr} (TB : TabB base mg cL PL) (mT : (PL, (envOfC "_law_ranges_right" (defScope s__law_ranges_right) 0 0 (.ref cL)).qual ++ "<lambda>") ∈ TT) (uT : ∀ p ∈ TT, p.1 = PL → p.2 = (envOfC "_law_ranges_right" (defScope s__law_ranges_right) 0 0 (.ref cL)).qual ++ "<lambda>") (A : Around) (env : List Env) (s : Shared) (H : Hp) (E : XK) (N0 : Addr → Prop) (b c : Addr) {f : Addr} (hr : Rg 9 (A.deeper (envOfC "_law_ranges_right" (defScope s__law_ranges_right) s.heap.objs.size f (.ref cL)))) :
    PSs (cxOf CX0 P w W.K mg base ["_law_box_here", "_law_found", "_law_left", "_law_right", "_law_low", "_law_high", "_law_over", "_law_wrong", "_law_item"] "_law_ranges_right" (defScope s__law_ranges_right) f (.ref cL) A env s H E).nox (defBody s__law_ranges_right) (uS ⟨W, RR b c, N0, H⟩ 22 wr__law_ranges_right) := by
  have hu : (A.deeper (envOfC "_law_ranges_right" (defScope s__law_ranges_right) s.heap.objs.size f (.ref cL))).units + 65 < cLine := by have := hr.room.un; omega
  have nd := sc__law_ranges_right.nd
  exact (nss_le (nss_cons (ns_asg (ne_callR 0 c__law_way rfl rfl hr (kb__law_way_1) (by decide) (by rfl) (na_lift fun _ => (da_nil (s := true)))) (ng_lift fun _ => (dg_tup rfl rfl (dgs_cons (dg_name 1 nd) (dgs_cons (dg_name 2 nd) (dgs_cons (dg_name 3 nd) dgs_nil))))))
  (nss_cons (ns_parN (is := [4, 5]) rfl (np_d (ne_callR 0 c__law_end rfl rfl hr (kb__law_end_3) (by decide) (by rfl) (na_lift fun _ => (da_cons (de_var 1) (da_cons (de_var 2) (da_nil (s := true)))))) (np_d (ne_callR 0 c__law_end rfl rfl hr (kb__law_end_3) (by decide) (by rfl) (na_lift fun _ => (da_cons (de_var 1) (da_cons (de_var 3) (da_nil (s := true)))))) np_nil)) (tn_cons 4 nd (tn_cons 5 nd tn_nil)))
  (nss_cons (ns_if (nt_pw (nw_and (nt_lift fun _ => (dt_cmp (op_eqU hu) od_eq (de_ix rfl (de_var 3) (de_int (s := true)) (fun _ _ => rfl)) (de_int (s := true)) (nomark _))) (nw_and1 (nt_cmp (op_eqU hu) (fun _ => od_eq) (ne_callR 0 c__law_take rfl rfl hr (kb__law_take_2) (by decide) (by rfl) (na_lift fun _ => (da_cons (de_int (s := true)) (da_nil (s := true))))) (ne_lift fun _ => (de_int (s := true))) (nomark _))))) (nss_one (ns_lift fun _ => (ds_set 5 nd (de_non (s := true))))) (nss_lift fun _ => dss_nil))
  (nss_cons (ns_lift fun _ => (ds_if (dt_pw (dw_or (dt_cmp (op_neU hu) od_ne (de_callXMP c_simplest rfl hr kb_simplest_2 (by decide) (by rfl) (da_cons (de_var 4) (da_cons (de_var 5) (da_nil (s := true))))) (de_var 1) (nomark _)) (dw_or1 (dt_cmp (op_neU hu) od_ne (de_callXMP c_simplest rfl hr kb_simplest_2 (by decide) (by rfl) (da_cons (de_callP c__law_turn rfl hr kb__law_turn_1 (by decide) (by rfl) (da_cons (de_var 5) (da_nil (s := true)))) (da_cons (de_callP c__law_turn rfl hr kb__law_turn_1 (by decide) (by rfl) (da_cons (de_var 4) (da_nil (s := true)))) (da_nil (s := true))))) (de_callP c__law_turn rfl hr kb__law_turn_1 (by decide) (by rfl) (da_cons (de_var 1) (da_nil (s := true)))) (nomark _))))) (dss_one (ds_ret (de_bl (s := true)))) dss_nil))
  (nss_cons (ns_lift fun _ => (ds_if (dt_pw (dw_or (dt_cmp (op_neU hu) od_ne (de_callXM0 c_simplest rfl hr kb_simplest_0_low_high (by decide) (by rfl) (dk_cons (de_var 1) (dk_cons (de_var 1) (dk_nil (s := true))))) (de_var 1) (nomark _)) (dw_or1 (dt_not (dt_val (de_callP c__law_none_less rfl hr kb__law_none_less_3 (by decide) (by rfl) (da_cons (de_var 1) (da_cons (de_var 4) (da_cons (de_var 5) (da_nil (s := true))))))))))) (dss_one (ds_ret (de_bl (s := true)))) dss_nil))
  (nss_cons (ns_lift fun _ => (ds_if (dt_pw (dw_or (dt_cmp (op_neU hu) od_ne (de_callXMP c_simplest rfl hr kb_simplest_2 (by decide) (by rfl) (da_cons (de_callP c__law_turn rfl hr kb__law_turn_1 (by decide) (by rfl) (da_cons (de_var 4) (da_nil (s := true)))) (da_cons (de_var 5) (da_nil (s := true))))) (de_tup (da_cons (de_int (s := true)) (da_cons (de_int (s := true)) (da_nil (s := true))))) (nomark _)) (dw_or (dt_cmp (op_neU hu) od_ne (de_callXMPK c_simplest rfl hr kb_simplest_1_high (by decide) (by rfl) (da_cons (de_non (s := true)) (da_nil (s := true))) (dk_cons (de_var 5) (dk_nil (s := true)))) (de_tup (da_cons (de_int (s := true)) (da_cons (de_int (s := true)) (da_nil (s := true))))) (nomark _)) (dw_or1 (dt_cmp (op_neU hu) od_ne (de_callXMP c_simplest rfl hr kb_simplest_2 (by decide) (by rfl) (da_cons (de_callP c__law_turn rfl hr kb__law_turn_1 (by decide) (by rfl) (da_cons (de_var 4) (da_nil (s := true)))) (da_cons (de_non (s := true)) (da_nil (s := true))))) (de_tup (da_cons (de_int (s := true)) (da_cons (de_int (s := true)) (da_nil (s := true))))) (nomark _)))))) (dss_one (ds_ret (de_bl (s := true)))) dss_nil))
  (nss_cons (ns_lift fun _ => (ds_if (dt_pw (dw_or (dt_cmp (op_neU hu) od_ne (de_callXMP c_simplest rfl hr kb_simplest_2 (by decide) (by rfl) (da_cons (de_tup (da_cons (de_int (s := true)) (da_cons (de_int (s := true)) (da_nil (s := true))))) (da_cons (de_var 4) (da_nil (s := true))))) (de_tup (da_cons (de_int (s := true)) (da_cons (de_int (s := true)) (da_nil (s := true))))) (nomark _)) (dw_or (dt_cmp (op_neU hu) od_ne (de_callXMP c_simplest rfl hr kb_simplest_2 (by decide) (by rfl) (da_cons (de_callP c__law_turn rfl hr kb__law_turn_1 (by decide) (by rfl) (da_cons (de_var 4) (da_nil (s := true)))) (da_cons (de_tup (da_cons (de_int (s := true)) (da_cons (de_int (s := true)) (da_nil (s := true))))) (da_nil (s := true))))) (de_tup (da_cons (de_int (s := true)) (da_cons (de_int (s := true)) (da_nil (s := true))))) (nomark _)) (dw_or1 (dt_cmp (op_neU hu) od_ne (de_callXMP c_simplest rfl hr kb_simplest_2 (by decide) (by rfl) (da_cons (de_non (s := true)) (da_cons (de_non (s := true)) (da_nil (s := true))))) (de_tup (da_cons (de_int (s := true)) (da_cons (de_int (s := true)) (da_nil (s := true))))) (nomark _)))))) (dss_one (ds_ret (de_bl (s := true)))) dss_nil))
  (nss_cons (ns_lift fun _ => (ds_set 6 nd (de_op op_sub (od_sub (s := true)) (de_int (s := true)) (de_op op_divU (od_div (s := true)) (de_op op_sub (od_sub (s := true)) (de_int (s := true)) (de_ix rfl (de_var 4) (de_int (s := true)) (fun _ _ => rfl))) (de_ix rfl (de_var 4) (de_int (s := true)) (fun _ _ => rfl))))))
  (nss_cons (ns_lift fun _ => (ds_if (dt_pw (dw_or (dt_cmp (op_neU hu) od_ne (de_callXMP c_simplest rfl hr kb_simplest_2 (by decide) (by rfl) (da_cons (de_var 4) (da_cons (de_non (s := true)) (da_nil (s := true))))) (de_tup (da_cons (de_var 6) (da_cons (de_int (s := true)) (da_nil (s := true))))) (nomark _)) (dw_or1 (dt_cmp (op_neU hu) od_ne (de_callXMP c_simplest rfl hr kb_simplest_2 (by decide) (by rfl) (da_cons (de_non (s := true)) (da_cons (de_callP c__law_turn rfl hr kb__law_turn_1 (by decide) (by rfl) (da_cons (de_var 4) (da_nil (s := true)))) (da_nil (s := true))))) (de_tup (da_cons (de_op op_sub (od_sub (s := true)) (de_int (s := true)) (de_var 6)) (da_cons (de_int (s := true)) (da_nil (s := true))))) (nomark _))))) (dss_one (ds_ret (de_bl (s := true)))) dss_nil))
  (nss_cons (ns_lift fun _ => (ds_fst 7 nd (df_lst (da_cons (de_thunkC (s := true) 7 th__law_refused (RT b c _) (by rfl) TB (by rfl) mT uT hr (by decide) (defScope s__law_ranges_right) (by rfl) (by decide +kernel) (by rfl) (by intros; rfl) (fun g1 cd1 z1 f1 c1 E1 out1 y1 G1 hq => (de_callEM (L2.takes_of (by rfl) (by rfl) (by rfl) (by rfl)) c_simplest rfl hq kb_simplest_2 (by decide) (by rfl) (da_cons (de_var 4) (da_cons (de_callP c__law_turn rfl hq kb__law_turn_1 (by decide) (by rfl) (da_cons (de_var 4) (da_nil (s := true)))) (da_nil (s := true))))))) (da_nil (s := true))))))
  (nss_cons (ns_lift fun _ => (ds_if (dt_pw (dw_and (dt_cmp op_isnotU od_isnot (de_var 5) (de_non (s := true)) (nomark _)) (dw_and1 (dt_cmp (op_neU hu) od_ne (de_var 5) (de_var 4) (nomark _))))) (dss_one (ds_app 7 (de_thunkC (s := true) 7 th__law_refused (RT b c _) (by rfl) TB (by rfl) mT uT hr (by decide) (defScope s__law_ranges_right) (by rfl) (by decide +kernel) (by rfl) (by intros; rfl) (fun g1 cd1 z1 f1 c1 E1 out1 y1 G1 hq => (de_callEM (L2.takes_of (by rfl) (by rfl) (by rfl) (by rfl)) c_simplest rfl hq kb_simplest_2 (by decide) (by rfl) (da_cons (de_var 5) (da_cons (de_var 4) (da_nil (s := true))))))))) dss_nil))
  (nss_frz 7 (nss_one (ns_lift fun _ => (ds_ret (de_callB (s := true) (cr_all rfl) cd_all (by rfl) T.m_all boot_all (da_cons (de_fv (df_lc (own := [("_law_item", 8)]) rfl nd (di_list rfl (de_var 7)) (blkOk_by (by rfl)) (fun _ _ _ _ _ => (dg_name 8 nd)) (fun _ _ _ _ _ => dts_nil) (fun _ _ _ _ _ => (de_cmp (op_eqU hu) (od_eq (s := true)) (de_var 8) (de_tup (da_cons (de_str (s := true)) (da_cons (de_str (s := true)) (da_nil (s := true))))) (nomark _))))) (da_nil (s := true))))))))))))))))))) (by decide))
theorem ok__law_ranges_right (T : Tx W mg) {er : Errs} (c__law_end : Cal P w W.K mg base 3 "_law_end" s__law_end ["_law_box_here", "_law_middle", "_law_side"] (spN W RR 2 3 F__law_end)) (c__law_none_less : Cal P w W.K mg base 1 "_law_none_less" s__law_none_less ["_law_found", "_law_low", "_law_high"] (spP W 3 F__law_none_less)) (c__law_take : Cal P w W.K mg base 1 "_law_take" s__law_take ["_law_box_here", "_law_many"] (spN W RR 1 2 F__law_take)) (c__law_turn : Cal P w W.K mg base 1 "_law_turn" s__law_turn ["_law_end_here"] (spP W 1 F__law_turn)) (c__law_way : Cal P w W.K mg base 2 "_law_way" s__law_way ["_law_box_here"] (spN W RR 17 1 F__law_way)) (c_simplest : CalX P w W.K mg base 3 "simplest" s_simplest ["low", "high"] (spXM W er 2 F_simplest)) (th__law_refused : CalTh P w W.K mg base "_law_refused" "_law_action" s__law_refused ["_law_action", "error"] er none [("InvalidNumber", "number"), ("Refused", "refused")]) {TT : List (Addr × Str)} (RT : ∀ b c n, ResT TT ((RR b c).at n)) {cL PL : Addr} (TB : TabB base mg cL PL) (mT : (PL, (envOfC "_law_ranges_right" (defScope s__law_ranges_right) 0 0 (.ref cL)).qual ++ "<lambda>") ∈ TT) (uT : ∀ p ∈ TT, p.1 = PL → p.2 = (envOfC "_law_ranges_right" (defScope s__law_ranges_right) 0 0 (.ref cL)).qual ++ "<lambda>") {f : Addr} {fd : FuncData} (ca : CodeAt W.K f cL) (Fn : Fun W.K "_law_ranges_right" "_law_ranges_right" s__law_ranges_right f fd) : FnG P w W.K mg base CX0 10 f fd ["_law_box_here"] (spN W RR 22 1 F__law_ranges_right) :=
  ok_drawNL Fn ca sc__law_ranges_right (by decide) (fun ds Φ h => len__law_ranges_right h) fun A env s H E N0 b c hr => ⟨wr__law_ranges_right, dv__law_ranges_right T c__law_end c__law_none_less c__law_take c__law_turn c__law_way c_simplest th__law_refused RT TB mT uT A env s H E N0 b c hr, fun ds Φ h => sem__law_ranges_right ds Φ h⟩

theorem sz_fr {q : Rat} (h : FrOk q) : Sz 30 q := ⟨Nat.lt_of_le_of_lt h.1 (by decide), Nat.lt_of_le_of_lt h.2 (by decide)⟩
theorem divInt_neg2 (v s : Int) : Rat.divInt v s = Rat.divInt (-v) (-s) := by rw [Rat.neg_divInt_neg]
theorem Sz.divZ {v s : Int} {n : Nat} (h0 : s ≠ 0) (hv : v.natAbs < 2 ^ n) (hs : s.natAbs < 2 ^ n) : Sz n (Rat.divInt v s) := by
  rcases Int.lt_or_gt_of_ne h0 with c | c
  · rw [divInt_neg2]
    exact Sz.div (by omega) (by rw [Int.natAbs_neg]; exact hv) (by rw [Int.natAbs_neg]; exact hs)
  · exact Sz.div c hv hs
/-- a fraction and the same amounts over one another -/
theorem cross {q : Rat} {t b : Int} (hb : b ≠ 0) (e : q = Rat.divInt t b) : decide (q.num * b = t * (q.den : Int)) = true := by
  refine decide_eq_true ((Rat.divInt_eq_divInt_iff (by have := den_pos q; omega) hb).mp ?_)
  rw [Rat.num_divInt_den]
  exact e
abbrev stL (ns : List Int) (k : Int) (x y z : Rat) (f : Int) (r : List Ent) : Ev := [.s ns, .d (.int k), .m, .d (dQ x), .d (dQ y), .d (dQ z), .d (.int x.num), .d (.int (x.den : Int)), .d (.int y.num), .d (.int (y.den : Int)), .d (.int f)] ++ r
abbrev u10 : List Ent := [.u, .u, .u, .u, .u, .u, .u, .u, .u, .u]
theorem fit_zero : Fit (.tuple [.str "number", .str "zero"]) := by
  unfold Fit
  simp [dOk, dOkA]
  decide +kernel
-- slots of law: 0 _law_script, 1 _law_k, 2 _law_box_here, 3 _law_one, 4 _law_other, 5 _law_third, 6 _law_a, 7 _law_b, 8 _law_c, 9 _law_d, 10 _law_factor, 11 _law_wrong, 12 _law_some, 13 _law_low, 14 _law_high, 15 _law_amounts, 16 _law_top, 17 _law_bottom, 18 _law_at, 19 _law_odd_here, 20 _law_item
def wk_law_0 : WS :=
  (wPars [16, 17] (wEd (wOp fAdd (wOp fMul (wVar 16) (wOp fIx (wOp fIx (wVar 12) (wVar 18)) (wC (.int 1)))) (wOp fMul (wOp fMul (wOp fIx (wVar 15) (wVar 18)) (wOp fIx (wOp fIx (wVar 12) (wVar 18)) (wC (.int 0)))) (wVar 17))) (wEd (wOp fMul (wVar 17) (wOp fIx (wOp fIx (wVar 12) (wVar 18)) (wC (.int 1)))) wEn)))
def wk_law_1 : WS :=
  (wIf (wOr (wNot (wTest (wGR 2 F__law_ranges_right 1 wNil))) (wNot (wTest (wGR 2 F__law_near_right 1 wNil))))
  (wRet (wC (.bool false)))
  wNx)
def wk_law_2 : WS :=
  (wSq (wIf (wOr (wNot (wTest (wG F__law_truth 2 0 [0, 1] (wCons (wG F_is_fraction 1 0 [0] (wCons (wVar 19) wNil) wNil) (wCons (wG F__law_is 1 0 [0] (wCons (wVar 19) wNil) wNil) wNil)) wNil))) (wOr (wTest (wOp fIsNot (wG F_is_fraction 0 1 [0] wNil (wCons (wVar 3) wNil)) (wC (.bool true)))) (wTest (wOp fIsNot (wG F_less 2 0 [0, 1] (wCons (wVar 3) (wCons (wVar 3) wNil)) wNil) (wC (.bool false))))))
  (wRet (wC (.bool false)))
  wNx)
  wk_law_1)
def wk_law_3 : WS :=
  (wSq (wSet 19 (wGR 2 F__law_odd 2 (wCons (wVar 3) wNil)))
  wk_law_2)
def wk_law_4 : WS :=
  (wSq (wIf (wOr (wNot (wTest (wG F__law_equals 3 0 [0, 1, 2] (wCons (wG F_weighed 0 2 [1, 0] wNil (wCons (wCall fTuple (wCons (wVar 12) wNil)) (wCons (wVar 15) wNil))) (wCons (wVar 16) (wCons (wVar 17) wNil))) wNil))) (wTest (wOp fNe (wG F_weighed 2 0 [0, 1] (wCons (wTup wNil) (wCons (wTup wNil) wNil)) wNil) (wTup (wCons (wC (.int 0)) (wCons (wC (.int 1)) wNil))))))
  (wRet (wC (.bool false)))
  wNx)
  wk_law_3)
def wk_law_5 : WS :=
  (wSq (wFor (wRng2 (wCons (wC (.int 1)) (wCons (wCall fLen (wCons (wVar 12) wNil)) wNil))) (gN 18)
  wk_law_0)
  wk_law_4)
def wk_law_6 : WS :=
  (wSq (wSet 17 (wOp fIx (wOp fIx (wVar 12) (wC (.int 0))) (wC (.int 1))))
  wk_law_5)
def wk_law_7 : WS :=
  (wSq (wSet 16 (wOp fMul (wOp fIx (wVar 15) (wC (.int 0))) (wOp fIx (wOp fIx (wVar 12) (wC (.int 0))) (wC (.int 0)))))
  wk_law_6)
def wk_law_8 : WS :=
  (wSq (wSet 15 (wCall fTuple (wCons (wFv (wLcN 8 (wListI (wVar 12)) (gN 20) wYes (wOp fSub (wGR 2 F__law_take 2 (wCons (wC (.int 9)) wNil)) (wC (.int 4))) [20])) wNil)))
  wk_law_7)
def wk_law_9 : WS :=
  (wSq (wIf (wNot (wTest (wCall fAll (wCons (wFv (wLc (wListI (wVar 12)) (gN 20) wYes (wAndV (wOp fLe (wOp fMul (wOp fIx (wVar 13) (wC (.int 0))) (wOp fIx (wVar 20) (wC (.int 1)))) (wOp fMul (wOp fIx (wVar 20) (wC (.int 0))) (wOp fIx (wVar 13) (wC (.int 1))))) (wOp fLe (wOp fMul (wOp fIx (wVar 20) (wC (.int 0))) (wOp fIx (wVar 14) (wC (.int 1)))) (wOp fMul (wOp fIx (wVar 14) (wC (.int 0))) (wOp fIx (wVar 20) (wC (.int 1)))))) [20])) wNil))))
  (wRet (wC (.bool false)))
  wNx)
  wk_law_8)
def wk_law_10 : WS :=
  (wSq (wIf (wOr (wTest (wOp fNotIn (wVar 13) (wVar 12))) (wOr (wTest (wOp fNotIn (wVar 14) (wVar 12))) (wTest (wOp fNe (wThunk none [("InvalidNumber", "number"), ("Refused", "refused")] (wGEM F_greatest_of 1 0 [0] (wCons (wTup wNil) wNil) wNil)) (wTup (wCons (wC (.str "refused")) (wCons (wC (.str "none")) wNil)))))))
  (wRet (wC (.bool false)))
  wNx)
  wk_law_9)
def wk_law_11 : WS :=
  (wSq (wPars [13, 14] (wEd (wG (noRaiseM F_least_of) 0 1 [0] wNil (wCons (wCall fTuple (wCons (wVar 12) wNil)) wNil)) (wEd (wG (noRaiseM F_greatest_of) 0 1 [0] wNil (wCons (wCall fTuple (wCons (wVar 12) wNil)) wNil)) wEn)))
  wk_law_10)
def wk_law_12 : WS :=
  (wSq (wSet 12 (wSl (wLst (wCons (wVar 3) (wCons (wVar 4) (wCons (wVar 5) (wCons (wVar 3) (wCons (wVar 4) (wCons (wVar 5) wNil))))))) wNo (wPart (wOp fAdd (wC (.int 1)) (wGR 2 F__law_take 2 (wCons (wC (.int 6)) wNil))))))
  wk_law_11)
def wk_law_13 : WS :=
  (wSq (wIf (wOr (wTest (wOp fNe (wVar 11) (wOp fMul (wLst (wCons (wTup (wCons (wC (.str "number")) (wCons (wC (.str "zero")) wNil))) wNil)) (wC (.int 2))))) (wTest (wOp fNe (wThunk none [("InvalidNumber", "number"), ("Refused", "refused")] (wGEM F_least_of 1 0 [0] (wCons (wTup wNil) wNil) wNil)) (wTup (wCons (wC (.str "refused")) (wCons (wC (.str "none")) wNil))))))
  (wRet (wC (.bool false)))
  wNx)
  wk_law_12)
def wk_law_14 : WS :=
  (wSq (wApp 11 (wThunk none [("InvalidNumber", "number"), ("Refused", "refused")] (wGEM F_fraction_of 2 0 [0, 1] (wCons (wVar 6) (wCons (wC (.int 0)) wNil)) wNil)))
  (wFrz 11
  wk_law_13))
def wk_law_15 : WS :=
  (wSq (wFst 11 (wFl (wCons (wThunk none [("InvalidNumber", "number"), ("Refused", "refused")] (wGEM F_ratio 2 0 [0, 1] (wCons (wVar 3) (wCons (wTup (wCons (wC (.int 0)) (wCons (wC (.int 1)) wNil))) wNil)) wNil)) wNil)))
  wk_law_14)
def wk_law_16 : WS :=
  (wSq (wIf (wAnd (wTest (wOp fNe (wVar 8) (wC (.int 0)))) (wOr (wNot (wTest (wG F__law_equals 3 0 [0, 1, 2] (wCons (wG (noRaiseM F_ratio) 2 0 [0, 1] (wCons (wVar 3) (wCons (wVar 4) wNil)) wNil) (wCons (wOp fMul (wVar 6) (wVar 9)) (wCons (wOp fMul (wVar 7) (wVar 8)) wNil))) wNil))) (wTest (wOp fNe (wG (noRaiseM F_ratio) 0 2 [1, 0] wNil (wCons (wVar 4) (wCons (wVar 3) wNil))) (wG (noRaiseM F_ratio) 2 0 [0, 1] (wCons (wVar 3) (wCons (wVar 4) wNil)) wNil)))))
  (wRet (wC (.bool false)))
  wNx)
  wk_law_15)
def wk_law_17 : WS :=
  (wSq (wIf (wOr (wNot (wTest (wG F__law_truth 2 0 [0, 1] (wCons (wG F_less 2 0 [0, 1] (wCons (wVar 3) (wCons (wVar 4) wNil)) wNil) (wCons (wOp fLt (wOp fMul (wVar 6) (wVar 9)) (wOp fMul (wVar 8) (wVar 7))) wNil)) wNil))) (wNot (wTest (wG F__law_truth 2 0 [0, 1] (wCons (wG F_less 0 2 [1, 0] wNil (wCons (wVar 3) (wCons (wVar 4) wNil))) (wCons (wOp fLt (wOp fMul (wVar 8) (wVar 7)) (wOp fMul (wVar 6) (wVar 9))) wNil)) wNil))))
  (wRet (wC (.bool false)))
  wNx)
  wk_law_16)
def wk_law_18 : WS :=
  (wSq (wIf (wIfT (wTest (wOp fNe (wVar 9) (wC (.int 9)))) (wNot (wTest (wG F__law_equals 3 0 [0, 1, 2] (wCons (wG (noRaiseM F_fraction_of) 0 2 [1, 0] wNil (wCons (wOp fSub (wVar 9) (wC (.int 9))) (wCons (wVar 6) wNil))) (wCons (wVar 6) (wCons (wOp fSub (wVar 9) (wC (.int 9))) wNil))) wNil))) (wTest (wOp fNe (wG (noRaiseM F_fraction_of) 2 0 [0, 1] (wCons (wC (.int 0)) (wCons (wOp fSub (wC (.int 0)) (wVar 9)) wNil)) wNil) (wTup (wCons (wC (.int 0)) (wCons (wC (.int 1)) wNil))))))
  (wRet (wC (.bool false)))
  wNx)
  wk_law_17)
def wk_law_19 : WS :=
  (wSq (wIf (wOr (wNot (wTest (wG F__law_equals 3 0 [0, 1, 2] (wCons (wG F_minus 0 2 [0, 1] wNil (wCons (wVar 3) (wCons (wVar 4) wNil))) (wCons (wOp fSub (wOp fMul (wVar 6) (wVar 9)) (wOp fMul (wVar 8) (wVar 7))) (wCons (wOp fMul (wVar 7) (wVar 9)) wNil))) wNil))) (wTest (wOp fNe (wG (noRaiseM F_fraction_of) 2 0 [0, 1] (wCons (wOp fMul (wVar 6) (wVar 10)) (wCons (wOp fMul (wVar 7) (wVar 10)) wNil)) wNil) (wVar 3))))
  (wRet (wC (.bool false)))
  wNx)
  wk_law_18)
def wk_law_20 : WS :=
  (wSq (wIf (wOr (wTest (wOp fNe (wG F_plus 0 2 [1, 0] wNil (wCons (wVar 3) (wCons (wVar 4) wNil))) (wG F_plus 2 0 [0, 1] (wCons (wVar 3) (wCons (wVar 4) wNil)) wNil))) (wTest (wOp fNe (wG F_times 0 2 [1, 0] wNil (wCons (wVar 3) (wCons (wVar 4) wNil))) (wG F_times 2 0 [0, 1] (wCons (wVar 3) (wCons (wVar 4) wNil)) wNil))))
  (wRet (wC (.bool false)))
  wNx)
  wk_law_19)
def wk_law_21 : WS :=
  (wSq (wIf (wOr (wNot (wTest (wG F__law_equals 3 0 [0, 1, 2] (wCons (wG F_plus 2 0 [0, 1] (wCons (wVar 3) (wCons (wVar 4) wNil)) wNil) (wCons (wOp fAdd (wOp fMul (wVar 6) (wVar 9)) (wOp fMul (wVar 8) (wVar 7))) (wCons (wOp fMul (wVar 7) (wVar 9)) wNil))) wNil))) (wNot (wTest (wG F__law_equals 3 0 [0, 1, 2] (wCons (wG F_times 2 0 [0, 1] (wCons (wVar 3) (wCons (wVar 4) wNil)) wNil) (wCons (wOp fMul (wVar 6) (wVar 8)) (wCons (wOp fMul (wVar 7) (wVar 9)) wNil))) wNil))))
  (wRet (wC (.bool false)))
  wNx)
  wk_law_20)
def wk_law_22 : WS :=
  (wSq (wAs (wTup (wCons (wVar 3) (wCons (wVar 4) (wCons (wGR 2 F__law_pick 2 (wCons (wLst (wCons (wC (.int 1)) (wCons (wOp fSub (wC (.int 0)) (wC (.int 1))) (wCons (wC (.int 6)) (wCons (wOp fSub (wC (.int 0)) (wC (.int 35))) wNil))))) wNil)) wNil)))) (gT 3 (gsCons (gT 2 (gsCons (gN 6) (gsCons (gN 7) gsNil))) (gsCons (gT 2 (gsCons (gN 8) (gsCons (gN 9) gsNil))) (gsCons (gN 10) gsNil)))))
  wk_law_21)
def wk_law_23 : WS :=
  (wSq (wPars [3, 4, 5] (wEd (wGR 2 F__law_fraction 1 wNil) (wEd (wGR 2 F__law_fraction 1 wNil) (wEd (wGR 2 F__law_fraction 1 wNil) wEn))))
  wk_law_22)
def wk_law_24 : WS :=
  (wRet (wAndV (wOp fEq (wG (noRaiseM F_simplest) 2 0 [0, 1] (wCons (wTup (wCons (wC (.int 31)) (wCons (wC (.int 10)) wNil))) (wCons (wTup (wCons (wC (.int 16)) (wCons (wC (.int 5)) wNil))) wNil)) wNil) (wTup (wCons (wC (.int 16)) (wCons (wC (.int 5)) wNil)))) (wAndV (wOp fIs (wG F_is_fraction 1 0 [0] (wCons (wTup (wCons (wC (.int 0)) (wCons (wC (.int 2)) wNil))) wNil) wNil) (wC (.bool false))) (wOp fIs (wG F_is_fraction 1 0 [0] (wCons (wTup (wCons (wC (.int 0)) (wCons (wC (.int 1)) wNil))) wNil) wNil) (wC (.bool true))))))
def ws_law : WS :=
  wk_law_23
def wr_law : WS :=
  (wSq (wPars [3, 4, 5] (wEd (wGR 2 F__law_fraction 1 wNil) (wEd (wGR 2 F__law_fraction 1 wNil) (wEd (wGR 2 F__law_fraction 1 wNil) wEn))))
  (wSq (wAs (wTup (wCons (wVar 3) (wCons (wVar 4) (wCons (wGR 2 F__law_pick 2 (wCons (wLst (wCons (wC (.int 1)) (wCons (wOp fSub (wC (.int 0)) (wC (.int 1))) (wCons (wC (.int 6)) (wCons (wOp fSub (wC (.int 0)) (wC (.int 35))) wNil))))) wNil)) wNil)))) (gT 3 (gsCons (gT 2 (gsCons (gN 6) (gsCons (gN 7) gsNil))) (gsCons (gT 2 (gsCons (gN 8) (gsCons (gN 9) gsNil))) (gsCons (gN 10) gsNil)))))
  (wSq (wIf (wOr (wNot (wTest (wG F__law_equals 3 0 [0, 1, 2] (wCons (wG F_plus 2 0 [0, 1] (wCons (wVar 3) (wCons (wVar 4) wNil)) wNil) (wCons (wOp fAdd (wOp fMul (wVar 6) (wVar 9)) (wOp fMul (wVar 8) (wVar 7))) (wCons (wOp fMul (wVar 7) (wVar 9)) wNil))) wNil))) (wNot (wTest (wG F__law_equals 3 0 [0, 1, 2] (wCons (wG F_times 2 0 [0, 1] (wCons (wVar 3) (wCons (wVar 4) wNil)) wNil) (wCons (wOp fMul (wVar 6) (wVar 8)) (wCons (wOp fMul (wVar 7) (wVar 9)) wNil))) wNil))))
  (wRet (wC (.bool false)))
  wNx)
  (wSq (wIf (wOr (wTest (wOp fNe (wG F_plus 0 2 [1, 0] wNil (wCons (wVar 3) (wCons (wVar 4) wNil))) (wG F_plus 2 0 [0, 1] (wCons (wVar 3) (wCons (wVar 4) wNil)) wNil))) (wTest (wOp fNe (wG F_times 0 2 [1, 0] wNil (wCons (wVar 3) (wCons (wVar 4) wNil))) (wG F_times 2 0 [0, 1] (wCons (wVar 3) (wCons (wVar 4) wNil)) wNil))))
  (wRet (wC (.bool false)))
  wNx)
  (wSq (wIf (wOr (wNot (wTest (wG F__law_equals 3 0 [0, 1, 2] (wCons (wG F_minus 0 2 [0, 1] wNil (wCons (wVar 3) (wCons (wVar 4) wNil))) (wCons (wOp fSub (wOp fMul (wVar 6) (wVar 9)) (wOp fMul (wVar 8) (wVar 7))) (wCons (wOp fMul (wVar 7) (wVar 9)) wNil))) wNil))) (wTest (wOp fNe (wG (noRaiseM F_fraction_of) 2 0 [0, 1] (wCons (wOp fMul (wVar 6) (wVar 10)) (wCons (wOp fMul (wVar 7) (wVar 10)) wNil)) wNil) (wVar 3))))
  (wRet (wC (.bool false)))
  wNx)
  (wSq (wIf (wIfT (wTest (wOp fNe (wVar 9) (wC (.int 9)))) (wNot (wTest (wG F__law_equals 3 0 [0, 1, 2] (wCons (wG (noRaiseM F_fraction_of) 0 2 [1, 0] wNil (wCons (wOp fSub (wVar 9) (wC (.int 9))) (wCons (wVar 6) wNil))) (wCons (wVar 6) (wCons (wOp fSub (wVar 9) (wC (.int 9))) wNil))) wNil))) (wTest (wOp fNe (wG (noRaiseM F_fraction_of) 2 0 [0, 1] (wCons (wC (.int 0)) (wCons (wOp fSub (wC (.int 0)) (wVar 9)) wNil)) wNil) (wTup (wCons (wC (.int 0)) (wCons (wC (.int 1)) wNil))))))
  (wRet (wC (.bool false)))
  wNx)
  (wSq (wIf (wOr (wNot (wTest (wG F__law_truth 2 0 [0, 1] (wCons (wG F_less 2 0 [0, 1] (wCons (wVar 3) (wCons (wVar 4) wNil)) wNil) (wCons (wOp fLt (wOp fMul (wVar 6) (wVar 9)) (wOp fMul (wVar 8) (wVar 7))) wNil)) wNil))) (wNot (wTest (wG F__law_truth 2 0 [0, 1] (wCons (wG F_less 0 2 [1, 0] wNil (wCons (wVar 3) (wCons (wVar 4) wNil))) (wCons (wOp fLt (wOp fMul (wVar 8) (wVar 7)) (wOp fMul (wVar 6) (wVar 9))) wNil)) wNil))))
  (wRet (wC (.bool false)))
  wNx)
  (wSq (wIf (wAnd (wTest (wOp fNe (wVar 8) (wC (.int 0)))) (wOr (wNot (wTest (wG F__law_equals 3 0 [0, 1, 2] (wCons (wG (noRaiseM F_ratio) 2 0 [0, 1] (wCons (wVar 3) (wCons (wVar 4) wNil)) wNil) (wCons (wOp fMul (wVar 6) (wVar 9)) (wCons (wOp fMul (wVar 7) (wVar 8)) wNil))) wNil))) (wTest (wOp fNe (wG (noRaiseM F_ratio) 0 2 [1, 0] wNil (wCons (wVar 4) (wCons (wVar 3) wNil))) (wG (noRaiseM F_ratio) 2 0 [0, 1] (wCons (wVar 3) (wCons (wVar 4) wNil)) wNil)))))
  (wRet (wC (.bool false)))
  wNx)
  (wSq (wFst 11 (wFl (wCons (wThunk none [("InvalidNumber", "number"), ("Refused", "refused")] (wGEM F_ratio 2 0 [0, 1] (wCons (wVar 3) (wCons (wTup (wCons (wC (.int 0)) (wCons (wC (.int 1)) wNil))) wNil)) wNil)) wNil)))
  (wSq (wApp 11 (wThunk none [("InvalidNumber", "number"), ("Refused", "refused")] (wGEM F_fraction_of 2 0 [0, 1] (wCons (wVar 6) (wCons (wC (.int 0)) wNil)) wNil)))
  (wFrz 11
  (wSq (wIf (wOr (wTest (wOp fNe (wVar 11) (wOp fMul (wLst (wCons (wTup (wCons (wC (.str "number")) (wCons (wC (.str "zero")) wNil))) wNil)) (wC (.int 2))))) (wTest (wOp fNe (wThunk none [("InvalidNumber", "number"), ("Refused", "refused")] (wGEM F_least_of 1 0 [0] (wCons (wTup wNil) wNil) wNil)) (wTup (wCons (wC (.str "refused")) (wCons (wC (.str "none")) wNil))))))
  (wRet (wC (.bool false)))
  wNx)
  (wSq (wSet 12 (wSl (wLst (wCons (wVar 3) (wCons (wVar 4) (wCons (wVar 5) (wCons (wVar 3) (wCons (wVar 4) (wCons (wVar 5) wNil))))))) wNo (wPart (wOp fAdd (wC (.int 1)) (wGR 2 F__law_take 2 (wCons (wC (.int 6)) wNil))))))
  (wSq (wPars [13, 14] (wEd (wG (noRaiseM F_least_of) 0 1 [0] wNil (wCons (wCall fTuple (wCons (wVar 12) wNil)) wNil)) (wEd (wG (noRaiseM F_greatest_of) 0 1 [0] wNil (wCons (wCall fTuple (wCons (wVar 12) wNil)) wNil)) wEn)))
  (wSq (wIf (wOr (wTest (wOp fNotIn (wVar 13) (wVar 12))) (wOr (wTest (wOp fNotIn (wVar 14) (wVar 12))) (wTest (wOp fNe (wThunk none [("InvalidNumber", "number"), ("Refused", "refused")] (wGEM F_greatest_of 1 0 [0] (wCons (wTup wNil) wNil) wNil)) (wTup (wCons (wC (.str "refused")) (wCons (wC (.str "none")) wNil)))))))
  (wRet (wC (.bool false)))
  wNx)
  (wSq (wIf (wNot (wTest (wCall fAll (wCons (wFv (wLc (wListI (wVar 12)) (gN 20) wYes (wAndV (wOp fLe (wOp fMul (wOp fIx (wVar 13) (wC (.int 0))) (wOp fIx (wVar 20) (wC (.int 1)))) (wOp fMul (wOp fIx (wVar 20) (wC (.int 0))) (wOp fIx (wVar 13) (wC (.int 1))))) (wOp fLe (wOp fMul (wOp fIx (wVar 20) (wC (.int 0))) (wOp fIx (wVar 14) (wC (.int 1)))) (wOp fMul (wOp fIx (wVar 14) (wC (.int 0))) (wOp fIx (wVar 20) (wC (.int 1)))))) [20])) wNil))))
  (wRet (wC (.bool false)))
  wNx)
  (wSq (wSet 15 (wCall fTuple (wCons (wFv (wLcN 8 (wListI (wVar 12)) (gN 20) wYes (wOp fSub (wGR 2 F__law_take 2 (wCons (wC (.int 9)) wNil)) (wC (.int 4))) [20])) wNil)))
  (wSq (wSet 16 (wOp fMul (wOp fIx (wVar 15) (wC (.int 0))) (wOp fIx (wOp fIx (wVar 12) (wC (.int 0))) (wC (.int 0)))))
  (wSq (wSet 17 (wOp fIx (wOp fIx (wVar 12) (wC (.int 0))) (wC (.int 1))))
  (wSq (wFor (wRng2 (wCons (wC (.int 1)) (wCons (wCall fLen (wCons (wVar 12) wNil)) wNil))) (gN 18)
  (wPars [16, 17] (wEd (wOp fAdd (wOp fMul (wVar 16) (wOp fIx (wOp fIx (wVar 12) (wVar 18)) (wC (.int 1)))) (wOp fMul (wOp fMul (wOp fIx (wVar 15) (wVar 18)) (wOp fIx (wOp fIx (wVar 12) (wVar 18)) (wC (.int 0)))) (wVar 17))) (wEd (wOp fMul (wVar 17) (wOp fIx (wOp fIx (wVar 12) (wVar 18)) (wC (.int 1)))) wEn))))
  (wSq (wIf (wOr (wNot (wTest (wG F__law_equals 3 0 [0, 1, 2] (wCons (wG F_weighed 0 2 [1, 0] wNil (wCons (wCall fTuple (wCons (wVar 12) wNil)) (wCons (wVar 15) wNil))) (wCons (wVar 16) (wCons (wVar 17) wNil))) wNil))) (wTest (wOp fNe (wG F_weighed 2 0 [0, 1] (wCons (wTup wNil) (wCons (wTup wNil) wNil)) wNil) (wTup (wCons (wC (.int 0)) (wCons (wC (.int 1)) wNil))))))
  (wRet (wC (.bool false)))
  wNx)
  (wSq (wSet 19 (wGR 2 F__law_odd 2 (wCons (wVar 3) wNil)))
  (wSq (wIf (wOr (wNot (wTest (wG F__law_truth 2 0 [0, 1] (wCons (wG F_is_fraction 1 0 [0] (wCons (wVar 19) wNil) wNil) (wCons (wG F__law_is 1 0 [0] (wCons (wVar 19) wNil) wNil) wNil)) wNil))) (wOr (wTest (wOp fIsNot (wG F_is_fraction 0 1 [0] wNil (wCons (wVar 3) wNil)) (wC (.bool true)))) (wTest (wOp fIsNot (wG F_less 2 0 [0, 1] (wCons (wVar 3) (wCons (wVar 3) wNil)) wNil) (wC (.bool false))))))
  (wRet (wC (.bool false)))
  wNx)
  (wIf (wOr (wNot (wTest (wGR 2 F__law_ranges_right 1 wNil))) (wNot (wTest (wGR 2 F__law_near_right 1 wNil))))
  (wRet (wC (.bool false)))
  wNx))))))))))))))))))))))))
def wt_law : WS :=
  wk_law_24
def wl_law : WS := wSq (wFor (wRng1 (wCons (wOp fAdd (wC (.int 3)) (wCall fInt (wCons (wOp fGt (wSLen 0) (wC (.int 1))) wNil))) wNil)) (gN 1) (wBoxed 21 1 2 F__law_box wr_law)) wt_law

section
variable {ns : List Int} {k f : Int} {x y z : Rat} {W : DL.WX}
theorem eq_at {q : Rat} {t b : Int} {Φ : PyData → Prop} (ds : List PyData) (e : ds = [dQ q, .int t, .int b]) (hq : Sz 4000 q) (ht : t.natAbs < 2 ^ 9000) (hb : b.natAbs < 2 ^ 9000) (b0 : b ≠ 0) (hqe : q = Rat.divInt t b) (h : Φ (.bool true)) : F__law_equals ds Φ :=
  ⟨q, t, b, e, hq, ht, hb, by rw [cross b0 hqe]; exact h⟩
theorem up30 {q : Rat} (h : Sz 30 q) : Sz 4000 q := h.mono (by decide)
theorem i30 {v : Int} (h : v.natAbs < 2 ^ 30) : v.natAbs < 2 ^ 9000 := Nat.lt_of_lt_of_le h (p2 (by decide))
theorem law21 (hx : FrOk x) (hy : FrOk y) (h : wk_law_20 W (stL ns k x y z f u10)) : wk_law_21 W (stL ns k x y z f u10) := by
  obtain ⟨a1, a2⟩ := sz_fr hx
  obtain ⟨b1, b2⟩ := sz_fr hy
  have a2 : ((x.den : Int)).natAbs < 2 ^ 30 := a2
  have b2 : ((y.den : Int)).natAbs < 2 ^ 30 := b2
  have xd := den_pos x
  have yd := den_pos y
  have p0 : (x.den : Int) * (y.den : Int) ≠ 0 := Int.ne_of_gt (Int.mul_pos xd yd)
  have sx := up30 (sz_fr hx)
  have sy := up30 (sz_fr hy)
  refine sq ⟨rfl, rfl, x, y, rfl, sx, sy, cmulw (i30 a1) (i30 b2), cmulw (i30 b1) (i30 a2), cmulw (i30 a2) (i30 b2), rfl, rfl, ?_⟩
  refine eq_at (q := x + y) _ rfl ((Sz.add (sz_fr hx) (sz_fr hy)).mono (by decide)) (Nat.lt_of_lt_of_le (add2i (mul2i a1 b2) (mul2i b1 a2)) (p2 (by decide))) (Nat.lt_of_lt_of_le (mul2i a2 b2) (p2 (by decide))) p0 (add_num x y) ?_
  refine ⟨rfl, rfl, x, y, rfl, sx, sy, cmulw (i30 a1) (i30 b1), cmulw (i30 a2) (i30 b2), rfl, rfl, ?_⟩
  refine eq_at (q := x * y) _ rfl ((Sz.mul (sz_fr hx) (sz_fr hy)).mono (by decide)) (Nat.lt_of_lt_of_le (mul2i a1 b1) (p2 (by decide))) (Nat.lt_of_lt_of_le (mul2i a2 b2) (p2 (by decide))) p0 (mul_num x y) ?_
  exact h
theorem law20 (hx : FrOk x) (hy : FrOk y) (h : wk_law_19 W (stL ns k x y z f u10)) : wk_law_20 W (stL ns k x y z f u10) := by
  have sx := up30 (sz_fr hx)
  have sy := up30 (sz_fr hy)
  refine sq ⟨rfl, rfl, y, x, rfl, sy, sx, rfl, rfl, x, y, rfl, sx, sy, ?_⟩
  rw [Rat.add_comm y x]
  refine ne_self ?_
  refine ⟨rfl, rfl, y, x, rfl, sy, sx, rfl, rfl, x, y, rfl, sx, sy, ?_⟩
  rw [Rat.mul_comm y x]
  refine ne_self ?_
  exact h
theorem law19 (hx : FrOk x) (hy : FrOk y) (hf : f.natAbs < 2 ^ 6) (f0 : f ≠ 0) (h : wk_law_18 W (stL ns k x y z f u10)) : wk_law_19 W (stL ns k x y z f u10) := by
  obtain ⟨a1, a2⟩ := sz_fr hx
  obtain ⟨b1, b2⟩ := sz_fr hy
  have a2 : ((x.den : Int)).natAbs < 2 ^ 30 := a2
  have b2 : ((y.den : Int)).natAbs < 2 ^ 30 := b2
  have xd := den_pos x
  have yd := den_pos y
  have p0 : (x.den : Int) * (y.den : Int) ≠ 0 := Int.ne_of_gt (Int.mul_pos xd yd)
  have sx := up30 (sz_fr hx)
  have sy := up30 (sz_fr hy)
  have fb : f.natAbs < 2 ^ 9000 := sml (Nat.lt_of_lt_of_le hf (p2 (by decide)))
  refine sq ⟨rfl, rfl, x, y, rfl, sx, sy, cmulw (i30 a1) (i30 b2), cmulw (i30 b1) (i30 a2), cmulw (i30 a2) (i30 b2), rfl, rfl, ?_⟩
  have mb : (x.num * (y.den : Int) - y.num * (x.den : Int)).natAbs < 2 ^ 9000 := by
    have := add2i (mul2i a1 b2) (show (-(y.num * (x.den : Int))).natAbs < 2 ^ (30 + 30) by rw [Int.natAbs_neg]; exact mul2i b1 a2)
    exact Nat.lt_of_lt_of_le (by rw [Int.sub_eq_add_neg]; exact this) (p2 (by decide))
  refine eq_at (q := x - y) _ rfl ?_ mb (Nat.lt_of_lt_of_le (mul2i a2 b2) (p2 (by decide))) p0 (sub_num x y) ?_
  · rw [Rat.sub_eq_add_neg]
    exact (Sz.add (sz_fr hx) (sz_fr hy).neg).mono (by decide)
  refine ⟨cmulw (i30 a1) fb, cmulw (i30 a2) fb, rfl, rfl, _, _, rfl, Nat.lt_of_lt_of_le (mul2i a2 hf) (p2 (by decide)), fun e => absurd e (Int.mul_ne_zero (by omega) f0), fun _ => ?_⟩
  rw [Rat.divInt_mul_right f0, Rat.num_divInt_den]
  refine var_at rfl (ne_self ?_)
  exact h
theorem law18 (hx : FrOk x) (hy : FrOk y) (h : wk_law_17 W (stL ns k x y z f u10)) : wk_law_18 W (stL ns k x y z f u10) := by
  obtain ⟨a1, a2⟩ := sz_fr hx
  have b2 : ((y.den : Int)).natAbs < 2 ^ 30 := (sz_fr hy).2
  have yd := den_pos y
  have ys := hy.2
  refine sq ⟨fit_int _, fit_int _, ?_⟩
  rw [eqv_int]
  by_cases c : (y.den : Int) = 9
  · rw [decide_eq_true c]
    refine ⟨rfl, rfl, 0, 0 - (y.den : Int), rfl, ?_, fun e => absurd e (by omega), fun _ => ⟨(by decide : 2 ≤ 100000), ?_⟩⟩
    · exact i30 (by omega)
    rw [Rat.zero_divInt]
    refine ne_self ?_
    exact h
  · rw [decide_eq_false c]
    have d0 : (y.den : Int) - 9 ≠ 0 := by omega
    have db : ((y.den : Int) - 9).natAbs < 2 ^ 30 := by omega
    refine ⟨rfl, rfl, x.num, (y.den : Int) - 9, rfl, i30 db, fun e => absurd e d0, fun _ => ⟨rfl, rfl, ?_⟩⟩
    refine eq_at (q := Rat.divInt x.num ((y.den : Int) - 9)) _ rfl (up30 (Sz.divZ d0 a1 db)) (i30 a1) (i30 db) d0 rfl ?_
    exact h
theorem law17 (hx : FrOk x) (hy : FrOk y) (h : wk_law_16 W (stL ns k x y z f u10)) : wk_law_17 W (stL ns k x y z f u10) := by
  obtain ⟨a1, a2⟩ := sz_fr hx
  obtain ⟨b1, b2⟩ := sz_fr hy
  have a2 : ((x.den : Int)).natAbs < 2 ^ 30 := a2
  have b2 : ((y.den : Int)).natAbs < 2 ^ 30 := b2
  have s9x : Sz 9000 x := (sz_fr hx).mono (by decide)
  have s9y : Sz 9000 y := (sz_fr hy).mono (by decide)
  refine sq ⟨rfl, rfl, x, y, rfl, s9x, s9y, cmulw (i30 a1) (i30 b2), cmulw (i30 b1) (i30 a2), rfl, rfl, decide (x < y), decide (x.num * (y.den : Int) < y.num * (x.den : Int)), rfl, ?_⟩
  rw [lt_num, beq_self_eq_true]
  refine ⟨rfl, rfl, y, x, rfl, s9y, s9x, cmulw (i30 b1) (i30 a2), cmulw (i30 a1) (i30 b2), rfl, rfl, decide (y < x), decide (y.num * (x.den : Int) < x.num * (y.den : Int)), rfl, ?_⟩
  rw [lt_num, beq_self_eq_true]
  exact h
theorem law16 (hx : FrOk x) (hy : FrOk y) (h : wk_law_15 W (stL ns k x y z f u10)) : wk_law_16 W (stL ns k x y z f u10) := by
  obtain ⟨a1, a2⟩ := sz_fr hx
  obtain ⟨b1, b2⟩ := sz_fr hy
  have a2 : ((x.den : Int)).natAbs < 2 ^ 30 := a2
  have b2 : ((y.den : Int)).natAbs < 2 ^ 30 := b2
  have xd := den_pos x
  have sx := up30 (sz_fr hx)
  have sy := up30 (sz_fr hy)
  refine sq ⟨fit_int _, fit_int _, ?_⟩
  rw [eqv_int]
  by_cases c : y.num = 0
  · rw [decide_eq_true c]
    exact h
  · rw [decide_eq_false c]
    have y0 : y ≠ 0 := fun e => c (by rw [e]; rfl)
    have e := div_num x y y0
    have p0 : (x.den : Int) * y.num ≠ 0 := Int.mul_ne_zero (by omega) c
    have sq' : Sz 4000 (x / y) := by
      rw [e]
      exact (Sz.divZ (n := 60) p0 (mul2i a1 b2) (mul2i a2 b1)).mono (by decide)
    refine ⟨rfl, rfl, x, y, rfl, sx, sy, fun z => absurd z y0, fun _ => ⟨cmulw (i30 a1) (i30 b2), cmulw (i30 a2) (i30 b1), rfl, rfl, ?_⟩⟩
    refine eq_at (q := x / y) _ rfl sq' (Nat.lt_of_lt_of_le (mul2i a1 b2) (p2 (by decide))) (Nat.lt_of_lt_of_le (mul2i a2 b1) (p2 (by decide))) p0 e ?_
    refine ⟨rfl, rfl, x, y, rfl, sx, sy, fun z => absurd z y0, fun _ => ⟨rfl, rfl, x, y, rfl, sx, sy, fun z => absurd z y0, fun _ => ne_self ?_⟩⟩
    exact h
def zz : PyData := .tuple [.str "number", .str "zero"]
theorem law15 (hx : FrOk x) (h : wk_law_13 W (stL ns k x y z f [.d (.list [zz, zz]), .u, .u, .u, .u, .u, .u, .u, .u, .u])) : wk_law_15 W (stL ns k x y z f u10) := by
  have sx := up30 (sz_fr hx)
  have one : 1 ≤ 100000 := by decide
  refine sq ⟨(by decide : 2 ≤ 100000), rfl, rfl, x, 0, rfl, sx, Sz.zero (by decide), fun _ => ⟨"number", rfl, one, ?_⟩, fun h => absurd rfl h⟩
  show wk_law_14 W (stL ns k x y z f [.o [zz], .u, .u, .u, .u, .u, .u, .u, .u, .u])
  refine sq ⟨rfl, rfl, x.num, 0, rfl, i30 (by decide), fun _ => ⟨"number", rfl, (by show 1 < 100000; decide), ?_⟩, fun h => absurd rfl h⟩
  exact h
def nn : PyData := .tuple [.str "refused", .str "none"]
theorem neq_tup {xs : List PyData} {Φ : PyData → Prop} (hf : Fit (.tuple xs)) (hb : noB (.tuple xs) = true) (h : Φ (.bool false)) : fNe (.tuple xs) (.tuple xs) Φ := ⟨hf, hf, by rw [eqv_self hb]; exact h⟩
theorem neq_list {xs : List PyData} {Φ : PyData → Prop} (hf : Fit (.list xs)) (hb : noB (.list xs) = true) (h : Φ (.bool false)) : fNe (.list xs) (.list xs) Φ := ⟨hf, hf, by rw [eqv_self hb]; exact h⟩
theorem fit_zz : Fit (.list [zz, zz]) := fit_of (n := 19) (by unfold zz; simp [dOk, dOkA]; decide +kernel)
def t13 : WT := (wOr (wTest (wOp fNe (wVar 11) (wOp fMul (wLst (wCons (wTup (wCons (wC (.str "number")) (wCons (wC (.str "zero")) wNil))) wNil)) (wC (.int 2))))) (wTest (wOp fNe (wThunk none [("InvalidNumber", "number"), ("Refused", "refused")] (wGEM F_least_of 1 0 [0] (wCons (wTup wNil) wNil) wNil)) (wTup (wCons (wC (.str "refused")) (wCons (wC (.str "none")) wNil))))))
theorem test13 {ρ : Ev} (h11 : nth ρ 11 = .d (.list [zz, zz])) {Φ : Bool → Prop} (h : Φ false) : t13 ρ Φ := by
  have two : 2 ≤ 100000 := by decide
  refine var_at h11 ?_
  refine ⟨two, (by decide : 1 ≤ 100000), by decide, by decide, (by decide : 1 ≤ 100), ?_⟩
  show fNe (.list [zz, zz]) (.list [zz, zz]) _
  refine neq_list fit_zz (by decide) ?_
  refine ⟨(by decide : 0 ≤ 100000), rfl, rfl, [], rfl, by decide, (fun _ hx => by cases hx), (fun _ => ⟨"refused", rfl, two, ?_⟩), fun m hm => by cases hm⟩
  show fNe nn nn _
  exact neq_tup fit_ref (by decide) h
theorem if_no_sq {wt : WT} {w1 w2 : WS} {W : DL.WX} {ρ : Ev} (h : ∀ Φ : Bool → Prop, Φ false → wt ρ Φ) (q : w2 W ρ) : wSq (wIf wt w1 wNx) w2 W ρ := h _ (by rw [if_neg Bool.false_ne_true]; exact q)
theorem law13 (h : wk_law_12 W (stL ns k x y z f [.d (.list [zz, zz]), .u, .u, .u, .u, .u, .u, .u, .u, .u])) : wk_law_13 W (stL ns k x y z f [.d (.list [zz, zz]), .u, .u, .u, .u, .u, .u, .u, .u, .u]) :=
  if_no_sq (wt := t13) (fun Φ hΦ => test13 rfl hΦ) h
/-- the fractions that are chosen -/
def someL (x y z : Rat) (n : Nat) : List Rat := [x, y, z, x, y, z].take (n + 1)
structure SmOk (S : List Rat) : Prop where
  ne : S ≠ []
  few : S.length ≤ 6
  fr : ∀ q ∈ S, FrOk q
theorem some_ok (hx : FrOk x) (hy : FrOk y) (hz : FrOk z) (n : Nat) : SmOk (someL x y z n) := by
  refine ⟨by unfold someL; simp, ?_, fun q hq => ?_⟩
  · unfold someL
    rw [List.length_take]
    exact Nat.min_le_right _ _
  · have := List.mem_of_mem_take hq
    simp only [List.mem_cons, List.not_mem_nil, or_false] at this
    rcases this with rfl | rfl | rfl | rfl | rfl | rfl <;> assumption
theorem law12 (hx : FrOk x) (hy : FrOk y) (hz : FrOk z) (h : ∀ S, SmOk S → wk_law_11 W (stL ns k x y z f [.d (.list [zz, zz]), .d (.list (S.map dQ)), .u, .u, .u, .u, .u, .u, .u, .u])) :
    wk_law_12 W (stL ns k x y z f [.d (.list [zz, zz]), .u, .u, .u, .u, .u, .u, .u, .u, .u]) := by
  refine sq ⟨(by decide : 6 ≤ 100000), rfl, 6, rfl, by decide, by decide, fun r r0 r1 => ?_⟩
  obtain ⟨n, rfl⟩ := Int.eq_ofNat_of_zero_le r0
  have e : cutG ([x, y, z, x, y, z].map dQ) none (some (1 + (n : Int))) = (someL x y z n).map dQ := by
    have e1 : (1 : Int) + (n : Int) = ((n + 1 : Nat) : Int) := by omega
    rw [e1, cutG_none (by show n + 1 ≤ 6; omega)]
    unfold someL
    rw [List.map_take]
  have := h _ (some_ok hx hy hz n)
  rw [← e] at this
  exact this
theorem law11 {S : List Rat} (sm : SmOk S) (h : ∀ lo hi, lo ∈ S → hi ∈ S → (∀ q ∈ S, lo ≤ q ∧ q ≤ hi) → wk_law_10 W (stL ns k x y z f [.d (.list [zz, zz]), .d (.list (S.map dQ)), .d (dQ lo), .d (dQ hi), .u, .u, .u, .u, .u, .u])) :
    wk_law_11 W (stL ns k x y z f [.d (.list [zz, zz]), .d (.list (S.map dQ)), .u, .u, .u, .u, .u, .u, .u, .u]) := by
  have few := sm.few
  have sz : ∀ q ∈ S, Sz 4000 q := fun q hq => up30 (sz_fr (sm.fr q hq))
  refine sq ⟨rfl, rfl, S, rfl, by omega, sz, fun e => absurd e sm.ne, fun lo hlo hle => ⟨rfl, rfl, S, rfl, by omega, sz, fun e => absurd e sm.ne, fun hi hhi hge => ⟨rfl, ⟨(by decide : 2 ≤ 100000), fun j hj => ?_⟩, ?_⟩⟩⟩
  · have : j = 13 ∨ j = 14 := by simpa using hj
    show j < 21
    omega
  exact h lo hi hlo hhi fun q hq => ⟨hle q hq, hge q hq⟩
theorem fit_some {S : List Rat} : Fit (.list (S.map dQ)) := fit_of (n := 2) (fit_list fun d hd => by
  obtain ⟨q, _, rfl⟩ := List.mem_map.mp hd
  exact fit_dF _)
theorem mem_some {S : List Rat} {q : Rat} (hq : q ∈ S) : memD (dQ q) (S.map dQ) = true := (memD_iff (noB_dF _) fun d hd => by
    obtain ⟨q, _, rfl⟩ := List.mem_map.mp hd
    exact noB_dF _).mpr (List.mem_map.mpr ⟨q, hq, rfl⟩)
theorem law10 {S : List Rat} {lo hi : Rat} {e11 : PyData} (hlo : lo ∈ S) (hhi : hi ∈ S) (h : wk_law_9 W (stL ns k x y z f [.d e11, .d (.list (S.map dQ)), .d (dQ lo), .d (dQ hi), .u, .u, .u, .u, .u, .u])) :
    wk_law_10 W (stL ns k x y z f [.d e11, .d (.list (S.map dQ)), .d (dQ lo), .d (dQ hi), .u, .u, .u, .u, .u, .u]) := by
  have two : 2 ≤ 100000 := by decide
  refine sq ⟨fit_dQ lo, fit_some, ?_⟩
  rw [mem_some hlo]
  refine ⟨fit_dQ hi, fit_some, ?_⟩
  rw [mem_some hhi]
  refine ⟨(by decide : 0 ≤ 100000), rfl, rfl, [], rfl, by decide, (fun _ hx => by cases hx), (fun _ => ⟨"refused", rfl, two, ?_⟩), fun m hm => by cases hm⟩
  show fNe nn nn _
  refine neq_tup fit_ref (by decide) ?_
  exact h
theorem law9 {S : List Rat} {lo hi : Rat} {e11 : PyData} (sm : SmOk S) (hlo : lo ∈ S) (hhi : hi ∈ S) (hle : ∀ q ∈ S, lo ≤ q ∧ q ≤ hi) (h : wk_law_8 W (stL ns k x y z f [.d e11, .d (.list (S.map dQ)), .d (dQ lo), .d (dQ hi), .u, .u, .u, .u, .u, .u])) :
    wk_law_9 W (stL ns k x y z f [.d e11, .d (.list (S.map dQ)), .d (dQ lo), .d (dQ hi), .u, .u, .u, .u, .u, .u]) := by
  have few := sm.few
  refine sq (lc_map (ds := S.map dQ) (fun _ => .bool true) rfl (fun Ψ h => h) (by rw [List.length_map]; omega) (fun d hd Ψ q => ?_) ?_)
  · obtain ⟨v, hv, rfl⟩ := List.mem_map.mp hd
    have sl := sz_fr (sm.fr lo hlo)
    have sh := sz_fr (sm.fr hi hhi)
    have sv := sz_fr (sm.fr v hv)
    obtain ⟨l1, l2⟩ := hle v hv
    refine ⟨(by decide : 20 < 21), _, rfl, _, rfl, cmulw (i30 sl.1) (i30 sv.2), _, rfl, _, rfl, cmulw (i30 sv.1) (i30 sl.2), ?_⟩
    have c1 : lo.num * (v.den : Int) ≤ v.num * (lo.den : Int) := (Rat.le_iff lo v).mp l1
    have c2 : v.num * (hi.den : Int) ≤ hi.num * (v.den : Int) := (Rat.le_iff v hi).mp l2
    show (if decide (lo.num * (v.den : Int) ≤ v.num * (lo.den : Int)) = true then _ else _)
    rw [decide_eq_true c1, if_pos rfl]
    refine ⟨_, rfl, _, rfl, cmulw (i30 sv.1) (i30 sh.2), _, rfl, _, rfl, cmulw (i30 sh.1) (i30 sv.2), ?_⟩
    show Ψ (.bool (decide (v.num * (hi.den : Int) ≤ hi.num * (v.den : Int))))
    rw [decide_eq_true c2]
    exact q
  · refine ⟨S.map fun _ => true, by rw [List.map_map, List.map_map]; rfl, ?_⟩
    have : (S.map fun _ => true).all id = true := by simp
    rw [this]
    exact h
theorem law8 {S : List Rat} {e11 e13 e14 : PyData} (sm : SmOk S) (h : ∀ cs : List Int, cs.length = S.length → (∀ c ∈ cs, c.natAbs ≤ 4) → wk_law_7 W (stL ns k x y z f [.d e11, .d (.list (S.map dQ)), .d e13, .d e14, .d (.tuple (cs.map .int)), .u, .u, .u, .u, .u])) :
    wk_law_8 W (stL ns k x y z f [.d e11, .d (.list (S.map dQ)), .d e13, .d e14, .u, .u, .u, .u, .u, .u]) := by
  have few := sm.few
  refine sq (lcN_any (ds := S.map dQ) (fun _ d => ∃ c : Int, d = .int c ∧ c.natAbs ≤ 4) rfl (fun Ψ h => h) (by rw [List.length_map]; omega) (by rw [List.length_map]; omega) (fun i d hd Ψ hq => ?_) fun ys hl hy => ?_)
  · exact ⟨(by decide : 20 < 21), rfl, 9, rfl, by decide, by decide, fun r r0 r1 => hq _ ⟨r - 4, rfl, by omega⟩⟩
  · obtain ⟨cs, rfl, hc⟩ : ∃ cs : List Int, ys = cs.map .int ∧ ∀ c ∈ cs, c.natAbs ≤ 4 := by
      have key : ∀ ys : List PyData, (∀ d ∈ ys, ∃ c : Int, d = .int c ∧ c.natAbs ≤ 4) → ∃ cs : List Int, ys = cs.map .int ∧ ∀ c ∈ cs, c.natAbs ≤ 4 := by
        intro ys
        induction ys with
        | nil => exact fun _ => ⟨[], rfl, fun c hc => nomatch hc⟩
        | cons d r ih =>
          intro hd
          obtain ⟨c, rfl, hc⟩ := hd d List.mem_cons_self
          obtain ⟨cs, rfl, h2⟩ := ih fun d hd2 => hd d (List.mem_cons_of_mem _ hd2)
          exact ⟨c :: cs, rfl, fun c' h' => (List.mem_cons.mp h').elim (fun e => by rw [e]; exact hc) (h2 c')⟩
      refine key ys fun d hd => ?_
      obtain ⟨i, hi⟩ := List.getElem?_of_mem hd
      exact hy i d hi
    exact h cs (by simpa using hl) hc
theorem law7 {S : List Rat} {cs : List Int} {e11 e13 e14 : PyData} (sm : SmOk S) (hl : cs.length = S.length) (hc : ∀ c ∈ cs, c.natAbs ≤ 4)
    (h : ∀ (T B : PyData) (x18 : Ent), wk_law_3 W (stL ns k x y z f [.d e11, .d (.list (S.map dQ)), .d e13, .d e14, .d (.tuple (cs.map .int)), .d T, .d B, x18, .u, .u])) :
    wk_law_7 W (stL ns k x y z f [.d e11, .d (.list (S.map dQ)), .d e13, .d e14, .d (.tuple (cs.map .int)), .u, .u, .u, .u, .u]) := by
  have few := sm.few
  obtain ⟨q0, S', hS⟩ : ∃ q0 S', S = q0 :: S' := List.exists_cons_of_ne_nil sm.ne
  obtain ⟨c0, cs', hcs⟩ : ∃ c0 cs', cs = c0 :: cs' := List.exists_cons_of_length_pos (by rw [hl, hS]; exact Nat.succ_pos _)
  have atS : ∀ {i : Nat} {q : Rat}, S[i]? = some q → atI (S.map dQ) (i : Int) = some (dQ q) := fun e => atM e
  have atC : ∀ {i : Nat} {c : Int}, cs[i]? = some c → atI (cs.map PyData.int) (i : Int) = some (.int c) := fun e => atM e
  have S0 : S[0]? = some q0 := by rw [hS]; rfl
  have C0 : cs[0]? = some c0 := by rw [hcs]; rfl
  have hq0 := sz_fr (sm.fr q0 (List.mem_of_getElem? S0))
  have hc0 := hc c0 (List.mem_of_getElem? C0)
  have cb : ∀ {c : Int}, c.natAbs ≤ 4 → c.natAbs < 2 ^ 3 := fun z => by omega
  have cw : ∀ {c : Int}, c.natAbs ≤ 4 → c.natAbs < 2 ^ 9000 := fun z => sml (Nat.lt_of_lt_of_le (cb z) (p2 (by decide)))
  refine sq ⟨_, atC C0, _, atS S0, _, rfl, cmulw (cw hc0) (i30 hq0.1), ?_⟩
  show wk_law_6 W (stL ns k x y z f [.d e11, .d (.list (S.map dQ)), .d e13, .d e14, .d (.tuple (cs.map .int)), .d (.int (c0 * q0.num)), .u, .u, .u, .u])
  refine sq ⟨_, atS S0, _, rfl, ?_⟩
  show wk_law_5 W (stL ns k x y z f [.d e11, .d (.list (S.map dQ)), .d e13, .d e14, .d (.tuple (cs.map .int)), .d (.int (c0 * q0.num)), .d (.int (q0.den : Int)), .u, .u, .u])
  have zl : (cs.zip (S.map some)).length = S.length := by rw [List.length_zip, List.length_map, hl, Nat.min_self]
  have zat : ∀ {i : Nat} {c : Int} {q : Rat}, cs[i]? = some c → S[i]? = some q → (cs.zip (S.map some))[i]? = some (c, some q) := fun {i c q} h1 h2 => by
    rw [List.getElem?_zip_eq_some]
    exact ⟨h1, by rw [List.getElem?_map, h2]; rfl⟩
  have ln : ((S.map dQ).length : Int) - 1 = ((S.length - 1 : Nat) : Int) := by
    rw [List.length_map, hS]
    simp
  refine sq (for_all (ds := intsFrom 1 (S.length - 1)) (fun i ρ => ∃ (T B : Int) (x18 : Ent), ρ = stL ns k x y z f [.d e11, .d (.list (S.map dQ)), .d e13, .d e14, .d (.tuple (cs.map .int)), .d (.int T), .d (.int B), x18, .u, .u] ∧ 0 < B ∧ T.natAbs < 2 ^ ((i + 1) * 40) ∧ B.natAbs < 2 ^ ((i + 1) * 40) ∧ Rat.divInt T B = sumQ (((cs.zip (S.map some)).take (i + 1)).map fun x => (x.1 : Rat) * valE x.2)) (fun Ψ h => ?_) ?_ (fun i d ρ2 hd hj => ?_) fun ρ2 hj => ?_)
  · refine ⟨⟨by decide, by decide, by rw [List.length_map]; omega, by rw [List.length_map]; omega⟩, ?_⟩
    rw [ln, Int.toNat_natCast]
    exact h
  · refine ⟨_, _, _, rfl, den_pos q0, Nat.lt_of_lt_of_le (mul2i (cb hc0) hq0.1) (p2 (by decide)), Nat.lt_of_lt_of_le (show ((q0.den : Int)).natAbs < 2 ^ 30 from hq0.2) (p2 (by decide)), ?_⟩
    rw [take_more (zat C0 S0), List.take_zero, List.nil_append]
    show _ = (c0 : Rat) * q0 + 0
    rw [Rat.add_zero]
    have := step_v (T := 0) (B := 1) (c := c0) (v0 := q0.num) (v1 := (q0.den : Int)) (by decide) (den_pos q0)
    rw [Int.zero_mul, Int.zero_add, Int.mul_one, Int.one_mul, Rat.num_divInt_den, Rat.zero_divInt, Rat.zero_add] at this
    exact this
  · obtain ⟨T, B, x18, rfl, hB, hT, hB2, hv⟩ := hj
    obtain rfl := intsFrom_get hd
    have hi : i < S.length - 1 := by
      have := (List.getElem?_eq_some_iff.mp hd).1
      rw [intsFrom_len] at this
      exact this
    have e1 : (1 : Int) + (i : Int) = ((i + 1 : Nat) : Int) := by omega
    rw [e1]
    have hS1 : i + 1 < S.length := by omega
    have Si : S[i + 1]? = some S[i + 1] := List.getElem?_eq_getElem hS1
    have Ci : cs[i + 1]? = some (cs[i + 1]'(by omega)) := List.getElem?_eq_getElem (by omega)
    generalize S[i + 1] = q at Si
    generalize cs[i + 1]'(by omega) = c at Ci
    have hq := sz_fr (sm.fr q (List.mem_of_getElem? Si))
    have hq2 : ((q.den : Int)).natAbs < 2 ^ 30 := hq.2
    have hcc := hc c (List.mem_of_getElem? Ci)
    have lei : (i + 1) * 40 ≤ 240 := Nat.mul_le_mul_right 40 (by omega : i + 1 ≤ 6)
    have m1 : (i + 1 + 1) * 40 = (i + 1) * 40 + 40 := Nat.succ_mul _ _
    have tb := mul2i hT hq2
    have cq := mul2i (cb hcc) hq.1
    have cqB := mul2i cq hB2
    refine ⟨(by decide : 18 < 21), _, atS Si, _, rfl, cmulw (Nat.lt_of_lt_of_le hT (p2 (by omega))) (i30 hq2), _, atC Ci, _, atS Si, _, rfl, cmulw (cw hcc) (i30 hq.1), cmulw (Nat.lt_of_lt_of_le cq (p2 (by decide))) (Nat.lt_of_lt_of_le hB2 (p2 (by omega))), _, atS Si, _, rfl, cmulw (Nat.lt_of_lt_of_le hB2 (p2 (by omega))) (i30 hq2), rfl, ⟨(by decide : 2 ≤ 100000), fun j hj => ?_⟩, ?_⟩
    · have : j = 16 ∨ j = 17 := by simpa using hj
      show j < 21
      omega
    refine ⟨T * (q.den : Int) + c * q.num * B, B * (q.den : Int), .d (.int ((i + 1 : Nat) : Int)), rfl, Int.mul_pos hB (den_pos q), ?_, ?_, ?_⟩
    · refine Nat.lt_of_lt_of_le (add2i (m := (i + 1) * 40 + 33) (Nat.lt_of_lt_of_le tb (p2 (by omega))) (Nat.lt_of_lt_of_le cqB (p2 (by omega)))) (p2 (by omega))
    · exact Nat.lt_of_lt_of_le (mul2i hB2 hq2) (p2 (by omega))
    · rw [take_more (zat Ci Si), List.map_append, sumQ_append, ← hv]
      refine (step_v hB (den_pos q)).trans ?_
      rw [Rat.num_divInt_den]
      exact congrArg _ (sumQ_one _).symm
  · obtain ⟨T, B, x18, rfl, hB, hT, hB2, hv⟩ := hj
    rw [intsFrom_len] at hT hB2 hv
    have sl : S.length - 1 + 1 = S.length := by rw [hS]; rfl
    rw [sl] at hT hB2 hv
    rw [List.take_of_length_le (by rw [zl]; exact Nat.le_refl _)] at hv
    have lei : S.length * 40 ≤ 240 := Nat.mul_le_mul_right 40 few
    have hT' : T.natAbs < 2 ^ 240 := Nat.lt_of_lt_of_le hT (p2 lei)
    have hB' : B.natAbs < 2 ^ 240 := Nat.lt_of_lt_of_le hB2 (p2 lei)
    have ewS : wS cs (S.map some) = Rat.divInt T B := hv.symm
    have dEs : (S.map some).map dE = S.map dQ := by rw [List.map_map]; rfl
    show wk_law_4 W (stL ns k x y z f [.d e11, .d (.list (S.map dQ)), .d e13, .d e14, .d (.tuple (cs.map .int)), .d (.int T), .d (.int B), x18, .u, .u])
    refine sq ⟨rfl, rfl, .tuple (cs.map .int), .tuple (S.map dQ), true, true, cs, S.map some, 30, 3, rfl, rfl, by rw [dEs]; rfl, fun c h => cb (hc c h), fun o ho => ?_, ?_, fun p hp _ => ?_, rfl, rfl, ?_⟩
    · obtain ⟨q, hq, rfl⟩ := List.mem_map.mp ho
      exact fun r e => by cases e; exact sz_fr (sm.fr q hq)
    · rw [zl]
      have : S.length * (30 + 3 + 1) ≤ 6 * (30 + 3 + 1) := Nat.mul_le_mul_right _ few
      omega
    · obtain ⟨p1, p2⟩ := p
      obtain ⟨q, _, e⟩ := List.mem_map.mp (List.of_mem_zip hp).2
      exact fun z => by rw [← e] at z; cases z
    refine eq_at (q := wS cs (S.map some)) _ rfl ?_ (Nat.lt_of_lt_of_le hT' (p2 (by decide))) (Nat.lt_of_lt_of_le hB' (p2 (by decide))) (by omega) ewS ?_
    · rw [ewS]
      exact (Sz.div hB hT' hB').mono (by decide)
    refine ⟨(by decide : 0 ≤ 100000), (by decide : 0 ≤ 100000), rfl, rfl, .tuple [], .tuple [], true, true, [], [], 0, 0, rfl, rfl, rfl, (fun c h => by cases h), (fun o h => by cases h), by decide, (fun p h => by cases h), (by decide : 2 ≤ 100000), ?_⟩
    refine ne_self (v := 0) ?_
    exact h _ _ _
theorem law3 {S : List Rat} {e11 e12 e13 e14 e15 e16 e17 : PyData} {x18 : Ent} (hx : FrOk x) (h : ∀ d : PyData, W.nx (stL ns k x y z f [.d e11, .d e12, .d e13, .d e14, .d e15, .d e16, .d e17, x18, .d d, .u])) :
    wk_law_3 W (stL ns k x y z f [.d e11, .d e12, .d e13, .d e14, .d e15, .d e16, .d e17, x18, .u, .u]) := by
  have sx := up30 (sz_fr hx)
  have s9 : Sz 9000 x := (sz_fr hx).mono (by decide)
  refine sq ⟨rfl, x, rfl, sx, fun d hd => ?_⟩
  have ok := odd_ok hd
  show wk_law_2 W (stL ns k x y z f [.d e11, .d e12, .d e13, .d e14, .d e15, .d e16, .d e17, x18, .d d, .u])
  refine sq ⟨rfl, rfl, d, rfl, ok, rfl, rfl, d, rfl, ok, rfl, rfl, frB d, frB d, rfl, ?_⟩
  rw [beq_self_eq_true]
  refine ⟨rfl, rfl, dQ x, rfl, odd_dQ x, ?_⟩
  rw [frB_dQ]
  refine ⟨rfl, rfl, x, x, rfl, s9, s9, ?_⟩
  rw [decide_eq_false (Rat.lt_irrefl)]
  show wk_law_1 W (stL ns k x y z f [.d e11, .d e12, .d e13, .d e14, .d e15, .d e16, .d e17, x18, .d d, .u])
  exact ⟨rfl, rfl, rfl, rfl, h d⟩
theorem law22 (hx : FrOk x) (hy : FrOk y) (hz : FrOk z) (hW : ∀ ρ, nth ρ 0 = .s ns → ρ.length = 21 → W.nx ρ) :
    wk_law_22 W [.s ns, .d (.int k), .m, .d (dQ x), .d (dQ y), .d (dQ z), .u, .u, .u, .u, .u, .u, .u, .u, .u, .u, .u, .u, .u, .u, .u] := by
  refine sq ⟨(by decide : 4 ≤ 100000), rfl, [.int 1, .int (0 - 1), .int 6, .int (0 - 35)], rfl, by simp, by decide, fun d hd => ?_⟩
  obtain ⟨f, rfl, f0, fb⟩ : ∃ f : Int, d = .int f ∧ f ≠ 0 ∧ f.natAbs < 2 ^ 6 := by
    simp only [List.mem_cons, List.not_mem_nil, or_false] at hd
    rcases hd with rfl | rfl | rfl | rfl
    · exact ⟨_, rfl, by decide, by decide⟩
    · exact ⟨_, rfl, by decide, by decide⟩
    · exact ⟨_, rfl, by decide, by decide⟩
    · exact ⟨_, rfl, by decide, by decide⟩
  refine ⟨(by decide : 3 ≤ 100000), rfl, rfl, (by decide : 6 < 21), (by decide : 7 < 21), rfl, (by decide : 8 < 21), (by decide : 9 < 21), (by decide : 10 < 21), ?_⟩
  show wk_law_21 W (stL ns k x y z f u10)
  refine law21 hx hy (law20 hx hy (law19 hx hy fb f0 (law18 hx hy (law17 hx hy (law16 hx hy (law15 hx (law13 (law12 hx hy hz fun S sm => law11 sm fun lo hi hlo hhi hle => law10 hlo hhi (law9 sm hlo hhi hle (law8 sm fun cs hl hc => law7 sm hl hc fun T B x18 => law3 (S := S) hx fun d => hW _ rfl rfl))))))))))
theorem law23 (hW : ∀ ρ, nth ρ 0 = .s ns → ρ.length = 21 → W.nx ρ) : wr_law W [.s ns, .d (.int k), .m, .u, .u, .u, .u, .u, .u, .u, .u, .u, .u, .u, .u, .u, .u, .u, .u, .u, .u] := by
  show wk_law_23 W _
  refine sq ⟨rfl, rfl, fun x hx => ⟨rfl, rfl, fun y hy => ⟨rfl, rfl, fun z hz => ⟨rfl, ⟨(by decide : 3 ≤ 100000), fun j hj => ?_⟩, ?_⟩⟩⟩⟩
  · have : j = 3 ∨ j = 4 ∨ j = 5 := by simpa using hj
    show j < 21
    omega
  exact law22 hx hy hz hW
end
theorem tail_law {ns : List Int} {Φ : PyData → Prop} (h : Φ (.bool true)) : wt_law (retX Φ) (evS 21 ns) := by
  have two : 2 ≤ 100000 := by decide
  have e1 : dF (31, 10) = dQ (vF (31, 10)) := Good_q (x := (31, 10)) (by decide) (by decide)
  have e2 : dF (16, 5) = dQ (vF (16, 5)) := Good_q (x := (16, 5)) (by decide) (by decide)
  have n2 := dF_inj e2
  have q1 : (vF (16, 5)).num = 16 := (congrArg Prod.fst n2).symm
  have q2 : ((vF (16, 5)).den : Int) = 5 := (congrArg Prod.snd n2).symm
  have sz : ∀ {t b : Int}, 0 < b → t.natAbs < 2 ^ 5 → b.natAbs < 2 ^ 5 → SzE 4000 (some (vF (t, b))) := fun h1 h2 h3 => szE_some ((Sz.div (n := 5) h1 h2 h3).mono (by decide))
  have ok : vF (31, 10) ≤ vF (16, 5) := (Rat_le_div (a := (31, 10)) (b := (16, 5)) (by decide) (by decide)).mpr (by decide)
  refine ⟨two, two, rfl, rfl, F_simp (vF (16, 5)) (lo := some (vF (31, 10))) (hi := some (vF (16, 5))) _ ?_ (sz (by decide) (by decide) (by decide)) (sz (by decide) (by decide) (by decide)) (fun l r z1 z2 => by cases z1; cases z2; exact ok) (fun q i ls => ?_) ⟨two, ?_⟩⟩
  · show [dF (31, 10), dF (16, 5)] = [dQ (vF (31, 10)), dQ (vF (16, 5))]
    rw [e1, e2]
  · obtain ⟨g1, g2⟩ := ls _ ⟨fun l e => by cases e; exact ok, fun r e => by cases e; exact Rat.le_refl⟩
    have a1 := (le_vF (x := (31, 10)) (by decide) q).mp (i.lo _ rfl)
    have a2 := (vF_le (x := (16, 5)) (by decide) q).mp (i.hi _ rfl)
    have a1 : 31 * (q.den : Int) ≤ q.num * 10 := a1
    have a2 : q.num * 5 ≤ 16 * (q.den : Int) := a2
    have dp := q.den_pos
    have d5 : q.den = 1 ∨ q.den = 2 ∨ q.den = 3 ∨ q.den = 4 ∨ q.den = 5 := by omega
    have both : q.num = 16 ∧ q.den = 5 := by
      rcases d5 with e | e | e | e | e <;> rw [e] at a1 a2 <;> omega
    exact rat_ext (by omega) (by omega)
  · show fEq (dQ (vF (16, 5))) (dF (16, 5)) _
    rw [e2]
    refine fEq_i (fit_dQ _) (fit_dQ _) ?_
    rw [eqv_dQ, decide_eq_true rfl]
    refine ⟨two, rfl, rfl, _, rfl, oddOk_of rfl, ?_⟩
    have b1 : frB (.tuple [.int 0, .int 2]) = false := by decide
    rw [b1]
    refine ⟨two, rfl, rfl, _, rfl, oddOk_of rfl, ?_⟩
    have b2 : frB (.tuple [.int 0, .int 1]) = true := by decide
    rw [b2]
    exact h
theorem sem_law (ns : List Int) (hl : ns.length ≤ 63) : wl_law (retX fun d => d = .bool true) (evS 21 ns) := by
  have jb : ∀ b : Bool, (intsFrom 0 ((3 : Int) + (if b then 1 else 0)).toNat).length ≤ 4 := fun b => by rw [intsFrom_len]; cases b <;> decide
  refine sq (for_all (ds := intsFrom 0 ((3 : Int) + (if decide ((1 : Int) < (ns.length : Int)) = true then 1 else 0)).toNat) (fun _ ρ => ρ = evS 21 ns) (fun Ψ h => ⟨?_, ?_, h⟩) rfl (fun i d ρ2 hd hj => ?_) fun ρ2 hj => ?_)
  · split <;> decide
  · split <;> decide
  · subst hj
    obtain rfl := intsFrom_get hd
    have hi := (List.getElem?_eq_some_iff.mp hd).1
    have := jb (decide ((1 : Int) < (ns.length : Int)))
    refine ⟨(by decide : 1 < 21), ns, _, rfl, ⟨_, rfl, by omega, by omega, hl, fun d h => h⟩, ?_⟩
    exact law23 (ns := ns) fun ρ z1 z2 => ⟨z1, z2, rfl⟩
  · subst hj
    exact tail_law rfl

theorem dv_lawb (T : Tx W mg) {er : Errs} (c__law_equals : Cal P w W.K mg base 3 "_law_equals" s__law_equals ["_law_value", "_law_top", "_law_bottom"] (spP W 3 F__law_equals)) (c__law_fraction : Cal P w W.K mg base 3 "_law_fraction" s__law_fraction ["_law_box_here"] (spN W RR 3 1 F__law_fraction)) (c__law_is : Cal P w W.K mg base 2 "_law_is" s__law_is ["_law_value"] (spP W 1 F__law_is)) (c__law_near_right : Cal P w W.K mg base 4 "_law_near_right" s__law_near_right ["_law_box_here"] (spN W RR 2 1 F__law_near_right)) (c__law_odd : Cal P w W.K mg base 3 "_law_odd" s__law_odd ["_law_box_here", "_law_one"] (spN W RR 1 2 F__law_odd)) (c__law_pick : Cal P w W.K mg base 2 "_law_pick" s__law_pick ["_law_box_here", "_law_some"] (spN W RR 1 2 F__law_pick)) (c__law_ranges_right : Cal P w W.K mg base 10 "_law_ranges_right" s__law_ranges_right ["_law_box_here"] (spN W RR 22 1 F__law_ranges_right)) (c__law_take : Cal P w W.K mg base 1 "_law_take" s__law_take ["_law_box_here", "_law_many"] (spN W RR 1 2 F__law_take)) (c__law_truth : Cal P w W.K mg base 1 "_law_truth" s__law_truth ["_law_value", "_law_due"] (spP W 2 F__law_truth)) (c_fraction_of : CalX P w W.K mg base 3 "fraction_of" s_fraction_of ["top", "bottom"] (spXM W er 2 F_fraction_of)) (c_greatest_of : CalX P w W.K mg base 3 "greatest_of" s_greatest_of ["some"] (spXM W er 1 F_greatest_of)) (c_is_fraction : Cal P w W.K mg base 2 "is_fraction" s_is_fraction ["value"] (spP W 1 F_is_fraction)) (c_least_of : CalX P w W.K mg base 3 "least_of" s_least_of ["some"] (spXM W er 1 F_least_of)) (c_less : Cal P w W.K mg base 1 "less" s_less ["one", "other"] (spP W 2 F_less)) (c_minus : Cal P w W.K mg base 4 "minus" s_minus ["one", "other"] (spP W 2 F_minus)) (c_plus : Cal P w W.K mg base 4 "plus" s_plus ["one", "other"] (spP W 2 F_plus)) (c_ratio : CalX P w W.K mg base 4 "ratio" s_ratio ["one", "other"] (spXM W er 2 F_ratio)) (c_simplest : CalX P w W.K mg base 3 "simplest" s_simplest ["low", "high"] (spXM W er 2 F_simplest)) (c_times : Cal P w W.K mg base 4 "times" s_times ["one", "other"] (spP W 2 F_times)) (c_weighed : Cal P w W.K mg base 4 "weighed" s_weighed ["coefficients", "point"] (spP W 2 F_weighed)) (th__law_refused : CalTh P w W.K mg base "_law_refused" "_law_action" s__law_refused ["_law_action", "error"] er none [("InvalidNumber", "number"), ("Refused", "refused")]) {TT : List (Addr × Str)} (RT : ∀ b c n, ResT TT ((RR b c).at n)) {cL PL : Addr} (TB : TabB base mg cL PL) (mT : (PL, (envOfC "law" (defScope s_law) 0 0 (.ref cL)).qual ++ "<lambda>") ∈ TT) (uT : ∀ p ∈ TT, p.1 = PL → p.2 = (envOfC "law" (defScope s_law) 0 0 (.ref cL)).qual ++ "<lambda>") (A : Around) (env : List Env) (s : Shared) (H : Hp) (E : XK) (N0 : Addr → Prop) (b c : Addr) (H1 : Hp) {f : Addr} (hr : Rg 13 (A.deeper (envOfC "law" (defScope s_law) s.heap.objs.size f (.ref cL)))) :
    PSs (cxOf CX0 P w W.K mg base ["_law_script", "_law_k", "_law_box_here", "_law_one", "_law_other", "_law_third", "_law_a", "_law_b", "_law_c", "_law_d", "_law_factor", "_law_wrong", "_law_some", "_law_low", "_law_high", "_law_amounts", "_law_top", "_law_bottom", "_law_at", "_law_odd_here", "_law_item"] "law" (defScope s_law) f (.ref cL) A env s H E).nox (forBody ((defBody s_law).getD 0 (.Pass ⟨0, 0, 0, 0⟩))).tail (uS ⟨W, RR b c, N0, H1⟩ 44 wr_law) := by
  have hu : (A.deeper (envOfC "law" (defScope s_law) s.heap.objs.size f (.ref cL))).units + 65 < cLine := by have := hr.room.un; omega
  have nd := sc_law.nd
  exact (nss_le (nss_cons (ns_parN (is := [3, 4, 5]) rfl (np_d (ne_callR 2 c__law_fraction rfl rfl hr (kb__law_fraction_1) (by decide) (by rfl) (na_lift fun _ => (da_nil (s := true)))) (np_d (ne_callR 2 c__law_fraction rfl rfl hr (kb__law_fraction_1) (by decide) (by rfl) (na_lift fun _ => (da_nil (s := true)))) (np_d (ne_callR 2 c__law_fraction rfl rfl hr (kb__law_fraction_1) (by decide) (by rfl) (na_lift fun _ => (da_nil (s := true)))) np_nil))) (tn_cons 3 nd (tn_cons 4 nd (tn_cons 5 nd tn_nil))))
  (nss_cons (ns_asg (ne_tup (na_cons (ne_lift fun _ => (de_var 3)) (na_cons (ne_lift fun _ => (de_var 4)) (na_cons (ne_callR 2 c__law_pick rfl rfl hr (kb__law_pick_2) (by decide) (by rfl) (na_lift fun _ => (da_cons (de_lst (da_cons (de_int (s := true)) (da_cons (de_op op_sub (od_sub (s := true)) (de_int (s := true)) (de_int (s := true))) (da_cons (de_int (s := true)) (da_cons (de_op op_sub (od_sub (s := true)) (de_int (s := true)) (de_int (s := true))) (da_nil (s := true))))))) (da_nil (s := true))))) (na_lift fun _ => da_nil (s := true)))))) (ng_lift fun _ => (dg_tup rfl rfl (dgs_cons (dg_tup rfl rfl (dgs_cons (dg_name 6 nd) (dgs_cons (dg_name 7 nd) dgs_nil))) (dgs_cons (dg_tup rfl rfl (dgs_cons (dg_name 8 nd) (dgs_cons (dg_name 9 nd) dgs_nil))) (dgs_cons (dg_name 10 nd) dgs_nil))))))
  (nss_cons (ns_lift fun _ => (ds_if (dt_pw (dw_or (dt_not (dt_val (de_callP c__law_equals rfl hr kb__law_equals_3 (by decide) (by rfl) (da_cons (de_callP c_plus rfl hr kb_plus_2 (by decide) (by rfl) (da_cons (de_var 3) (da_cons (de_var 4) (da_nil (s := true))))) (da_cons (de_op op_addU (od_add (s := true)) (de_op op_mulU (od_mul (s := true)) (de_var 6) (de_var 9)) (de_op op_mulU (od_mul (s := true)) (de_var 8) (de_var 7))) (da_cons (de_op op_mulU (od_mul (s := true)) (de_var 7) (de_var 9)) (da_nil (s := true)))))))) (dw_or1 (dt_not (dt_val (de_callP c__law_equals rfl hr kb__law_equals_3 (by decide) (by rfl) (da_cons (de_callP c_times rfl hr kb_times_2 (by decide) (by rfl) (da_cons (de_var 3) (da_cons (de_var 4) (da_nil (s := true))))) (da_cons (de_op op_mulU (od_mul (s := true)) (de_var 6) (de_var 8)) (da_cons (de_op op_mulU (od_mul (s := true)) (de_var 7) (de_var 9)) (da_nil (s := true))))))))))) (dss_one (ds_ret (de_bl (s := true)))) dss_nil))
  (nss_cons (ns_lift fun _ => (ds_if (dt_pw (dw_or (dt_cmp (op_neU hu) od_ne (de_callP0 c_plus rfl hr kb_plus_0_other_one (by decide) (by rfl) (dk_cons (de_var 3) (dk_cons (de_var 4) (dk_nil (s := true))))) (de_callP c_plus rfl hr kb_plus_2 (by decide) (by rfl) (da_cons (de_var 3) (da_cons (de_var 4) (da_nil (s := true))))) (nomark _)) (dw_or1 (dt_cmp (op_neU hu) od_ne (de_callP0 c_times rfl hr kb_times_0_other_one (by decide) (by rfl) (dk_cons (de_var 3) (dk_cons (de_var 4) (dk_nil (s := true))))) (de_callP c_times rfl hr kb_times_2 (by decide) (by rfl) (da_cons (de_var 3) (da_cons (de_var 4) (da_nil (s := true))))) (nomark _))))) (dss_one (ds_ret (de_bl (s := true)))) dss_nil))
  (nss_cons (ns_lift fun _ => (ds_if (dt_pw (dw_or (dt_not (dt_val (de_callP c__law_equals rfl hr kb__law_equals_3 (by decide) (by rfl) (da_cons (de_callP0 c_minus rfl hr kb_minus_0_one_other (by decide) (by rfl) (dk_cons (de_var 3) (dk_cons (de_var 4) (dk_nil (s := true))))) (da_cons (de_op op_sub (od_sub (s := true)) (de_op op_mulU (od_mul (s := true)) (de_var 6) (de_var 9)) (de_op op_mulU (od_mul (s := true)) (de_var 8) (de_var 7))) (da_cons (de_op op_mulU (od_mul (s := true)) (de_var 7) (de_var 9)) (da_nil (s := true)))))))) (dw_or1 (dt_cmp (op_neU hu) od_ne (de_callXMP c_fraction_of rfl hr kb_fraction_of_2 (by decide) (by rfl) (da_cons (de_op op_mulU (od_mul (s := true)) (de_var 6) (de_var 10)) (da_cons (de_op op_mulU (od_mul (s := true)) (de_var 7) (de_var 10)) (da_nil (s := true))))) (de_var 3) (nomark _))))) (dss_one (ds_ret (de_bl (s := true)))) dss_nil))
  (nss_cons (ns_lift fun _ => (ds_if (dt_ifT (dt_cmp (op_neU hu) od_ne (de_var 9) (de_int (s := true)) (nomark _)) (dt_not (dt_val (de_callP c__law_equals rfl hr kb__law_equals_3 (by decide) (by rfl) (da_cons (de_callXM0 c_fraction_of rfl hr kb_fraction_of_0_bottom_top (by decide) (by rfl) (dk_cons (de_op op_sub (od_sub (s := true)) (de_var 9) (de_int (s := true))) (dk_cons (de_var 6) (dk_nil (s := true))))) (da_cons (de_var 6) (da_cons (de_op op_sub (od_sub (s := true)) (de_var 9) (de_int (s := true))) (da_nil (s := true)))))))) (dt_cmp (op_neU hu) od_ne (de_callXMP c_fraction_of rfl hr kb_fraction_of_2 (by decide) (by rfl) (da_cons (de_int (s := true)) (da_cons (de_op op_sub (od_sub (s := true)) (de_int (s := true)) (de_var 9)) (da_nil (s := true))))) (de_tup (da_cons (de_int (s := true)) (da_cons (de_int (s := true)) (da_nil (s := true))))) (nomark _))) (dss_one (ds_ret (de_bl (s := true)))) dss_nil))
  (nss_cons (ns_lift fun _ => (ds_if (dt_pw (dw_or (dt_not (dt_val (de_callP c__law_truth rfl hr kb__law_truth_2 (by decide) (by rfl) (da_cons (de_callP c_less rfl hr kb_less_2 (by decide) (by rfl) (da_cons (de_var 3) (da_cons (de_var 4) (da_nil (s := true))))) (da_cons (de_cmp op_ltU (od_lt (s := true)) (de_op op_mulU (od_mul (s := true)) (de_var 6) (de_var 9)) (de_op op_mulU (od_mul (s := true)) (de_var 8) (de_var 7)) (nomark _)) (da_nil (s := true))))))) (dw_or1 (dt_not (dt_val (de_callP c__law_truth rfl hr kb__law_truth_2 (by decide) (by rfl) (da_cons (de_callP0 c_less rfl hr kb_less_0_other_one (by decide) (by rfl) (dk_cons (de_var 3) (dk_cons (de_var 4) (dk_nil (s := true))))) (da_cons (de_cmp op_ltU (od_lt (s := true)) (de_op op_mulU (od_mul (s := true)) (de_var 8) (de_var 7)) (de_op op_mulU (od_mul (s := true)) (de_var 6) (de_var 9)) (nomark _)) (da_nil (s := true)))))))))) (dss_one (ds_ret (de_bl (s := true)))) dss_nil))
  (nss_cons (ns_lift fun _ => (ds_if (dt_pw (dw_and (dt_cmp (op_neU hu) od_ne (de_var 8) (de_int (s := true)) (nomark _)) (dw_and1 (dt_pw (dw_or (dt_not (dt_val (de_callP c__law_equals rfl hr kb__law_equals_3 (by decide) (by rfl) (da_cons (de_callXMP c_ratio rfl hr kb_ratio_2 (by decide) (by rfl) (da_cons (de_var 3) (da_cons (de_var 4) (da_nil (s := true))))) (da_cons (de_op op_mulU (od_mul (s := true)) (de_var 6) (de_var 9)) (da_cons (de_op op_mulU (od_mul (s := true)) (de_var 7) (de_var 8)) (da_nil (s := true)))))))) (dw_or1 (dt_cmp (op_neU hu) od_ne (de_callXM0 c_ratio rfl hr kb_ratio_0_other_one (by decide) (by rfl) (dk_cons (de_var 4) (dk_cons (de_var 3) (dk_nil (s := true))))) (de_callXMP c_ratio rfl hr kb_ratio_2 (by decide) (by rfl) (da_cons (de_var 3) (da_cons (de_var 4) (da_nil (s := true))))) (nomark _)))))))) (dss_one (ds_ret (de_bl (s := true)))) dss_nil))
  (nss_cons (ns_lift fun _ => (ds_fst 11 nd (df_lst (da_cons (de_thunkC (s := true) 11 th__law_refused (RT b c _) (by rfl) TB (by rfl) mT uT hr (by decide) (defScope s_law) (by rfl) (by decide +kernel) (by rfl) (by intros; rfl) (fun g1 cd1 z1 f1 c1 E1 out1 y1 G1 hq => (de_callEM (L2.takes_of (by rfl) (by rfl) (by rfl) (by rfl)) c_ratio rfl hq kb_ratio_2 (by decide) (by rfl) (da_cons (de_var 3) (da_cons (de_tup (da_cons (de_int (s := true)) (da_cons (de_int (s := true)) (da_nil (s := true))))) (da_nil (s := true))))))) (da_nil (s := true))))))
  (nss_cons (ns_lift fun _ => (ds_app 11 (de_thunkC (s := true) 11 th__law_refused (RT b c _) (by rfl) TB (by rfl) mT uT hr (by decide) (defScope s_law) (by rfl) (by decide +kernel) (by rfl) (by intros; rfl) (fun g1 cd1 z1 f1 c1 E1 out1 y1 G1 hq => (de_callEM (L2.takes_of (by rfl) (by rfl) (by rfl) (by rfl)) c_fraction_of rfl hq kb_fraction_of_2 (by decide) (by rfl) (da_cons (de_var 6) (da_cons (de_int (s := true)) (da_nil (s := true)))))))))
  (nss_frz 11 (nss_cons (ns_lift fun _ => (ds_if (dt_pw (dw_or (dt_cmp (op_neU hu) od_ne (de_var 11) (de_op op_mulU (od_mul (s := true)) (de_lst (da_cons (de_tup (da_cons (de_str (s := true)) (da_cons (de_str (s := true)) (da_nil (s := true))))) (da_nil (s := true)))) (de_int (s := true))) (nomark _)) (dw_or1 (dt_cmp (op_neU hu) od_ne (de_thunkC (s := true) 11 th__law_refused (RT b c _) (by rfl) TB (by rfl) mT uT hr (by decide) (defScope s_law) (by rfl) (by decide +kernel) (by rfl) (by intros; rfl) (fun g1 cd1 z1 f1 c1 E1 out1 y1 G1 hq => (de_callEM (L2.takes_of (by rfl) (by rfl) (by rfl) (by rfl)) c_least_of rfl hq kb_least_of_1 (by decide) (by rfl) (da_cons (de_tup (da_nil (s := true))) (da_nil (s := true)))))) (de_tup (da_cons (de_str (s := true)) (da_cons (de_str (s := true)) (da_nil (s := true))))) (nomark _))))) (dss_one (ds_ret (de_bl (s := true)))) dss_nil))
  (nss_cons (ns_set 12 nd (ne_sl rfl (ne_lift fun _ => (de_lst (da_cons (de_var 3) (da_cons (de_var 4) (da_cons (de_var 5) (da_cons (de_var 3) (da_cons (de_var 4) (da_cons (de_var 5) (da_nil (s := true)))))))))) no_none (no_some (ne_op op_addU (fun _ => od_add (s := true)) (ne_lift fun _ => (de_int (s := true))) (ne_callR 2 c__law_take rfl rfl hr (kb__law_take_2) (by decide) (by rfl) (na_lift fun _ => (da_cons (de_int (s := true)) (da_nil (s := true)))))))))
  (nss_cons (ns_lift fun _ => (ds_parN (is := [13, 14]) rfl (ea_d (de_callXM0 c_least_of rfl hr kb_least_of_0_some (by decide) (by rfl) (dk_cons (de_callT (s := true) call_tuple_of cd_tuple (by rfl) T.m_tuple boot_tuple (da_cons (de_var 12) (da_nil (s := true)))) (dk_nil (s := true)))) (ea_d (de_callXM0 c_greatest_of rfl hr kb_greatest_of_0_some (by decide) (by rfl) (dk_cons (de_callT (s := true) call_tuple_of cd_tuple (by rfl) T.m_tuple boot_tuple (da_cons (de_var 12) (da_nil (s := true)))) (dk_nil (s := true)))) ea_nil)) (tn_cons 13 nd (tn_cons 14 nd tn_nil))))
  (nss_cons (ns_lift fun _ => (ds_if (dt_pw (dw_or (dt_cmp (op_notinU hu) od_notin (de_var 13) (de_var 12) (by with_unfolding_all rfl)) (dw_or (dt_cmp (op_notinU hu) od_notin (de_var 14) (de_var 12) (by with_unfolding_all rfl)) (dw_or1 (dt_cmp (op_neU hu) od_ne (de_thunkC (s := true) 11 th__law_refused (RT b c _) (by rfl) TB (by rfl) mT uT hr (by decide) (defScope s_law) (by rfl) (by decide +kernel) (by rfl) (by intros; rfl) (fun g1 cd1 z1 f1 c1 E1 out1 y1 G1 hq => (de_callEM (L2.takes_of (by rfl) (by rfl) (by rfl) (by rfl)) c_greatest_of rfl hq kb_greatest_of_1 (by decide) (by rfl) (da_cons (de_tup (da_nil (s := true))) (da_nil (s := true)))))) (de_tup (da_cons (de_str (s := true)) (da_cons (de_str (s := true)) (da_nil (s := true))))) (nomark _)))))) (dss_one (ds_ret (de_bl (s := true)))) dss_nil))
  (nss_cons (ns_lift fun _ => (ds_if (dt_not (dt_val (de_callB (s := true) (cr_all rfl) cd_all (by rfl) T.m_all boot_all (da_cons (de_fv (df_lc (own := [("_law_item", 20)]) rfl nd (di_list rfl (de_var 12)) (blkOk_by (by rfl)) (fun _ _ _ _ _ => (dg_name 20 nd)) (fun _ _ _ _ _ => dts_nil) (fun _ _ _ _ _ => (de_and (de_cmp op_le (od_le (s := true)) (de_op op_mulU (od_mul (s := true)) (de_ix rfl (de_var 13) (de_int (s := true)) (fun _ _ => rfl)) (de_ix rfl (de_var 20) (de_int (s := true)) (fun _ _ => rfl))) (de_op op_mulU (od_mul (s := true)) (de_ix rfl (de_var 20) (de_int (s := true)) (fun _ _ => rfl)) (de_ix rfl (de_var 13) (de_int (s := true)) (fun _ _ => rfl))) (nomark _)) (de_one (de_cmp op_le (od_le (s := true)) (de_op op_mulU (od_mul (s := true)) (de_ix rfl (de_var 20) (de_int (s := true)) (fun _ _ => rfl)) (de_ix rfl (de_var 14) (de_int (s := true)) (fun _ _ => rfl))) (de_op op_mulU (od_mul (s := true)) (de_ix rfl (de_var 14) (de_int (s := true)) (fun _ _ => rfl)) (de_ix rfl (de_var 20) (de_int (s := true)) (fun _ _ => rfl))) (nomark _))))))) (da_nil (s := true)))))) (dss_one (ds_ret (de_bl (s := true)))) dss_nil))
  (nss_cons (ns_set 15 nd (ne_callT (s := true) call_tuple_of (fun _ => cd_tuple) (by rfl) T.m_tuple boot_tuple (na_cons (ne_fv (nf_lc (own := [("_law_item", 20)]) 8 rfl nd (ni_lift fun _ => (di_list rfl (de_var 12))) (blkOk_by (by rfl)) (fun _ _ _ _ _ => (ng_lift fun _ => (dg_name 20 nd))) (fun _ _ _ _ _ => (nts_lift fun _ => dts_nil)) (fun _ _ _ _ _ => (ne_op op_sub (fun _ => od_sub (s := true)) (ne_callR 2 c__law_take rfl rfl hr (kb__law_take_2) (by decide) (by rfl) (na_lift fun _ => (da_cons (de_int (s := true)) (da_nil (s := true))))) (ne_lift fun _ => (de_int (s := true))))))) (na_lift fun _ => da_nil (s := true)))))
  (nss_cons (ns_lift fun _ => (ds_set 16 nd (de_op op_mulU (od_mul (s := true)) (de_ix rfl (de_var 15) (de_int (s := true)) (fun _ _ => rfl)) (de_ix rfl (de_ix rfl (de_var 12) (de_int (s := true)) (fun _ _ => rfl)) (de_int (s := true)) (fun _ _ => rfl)))))
  (nss_cons (ns_lift fun _ => (ds_set 17 nd (de_ix rfl (de_ix rfl (de_var 12) (de_int (s := true)) (fun _ _ => rfl)) (de_int (s := true)) (fun _ _ => rfl))))
  (nss_cons (ns_lift fun _ => (ds_for PassesOwn.never rfl (di_rng2 (by rfl) T.m_range (da_cons (de_int (s := true)) (da_cons (de_callB (s := true) call_len cd_len (by rfl) T.m_len boot_len (da_cons (de_var 12) (da_nil (s := true)))) (da_nil (s := true))))) (dg_name 18 nd) (dss_one (ds_par2 16 17 rfl nd (ea_d (de_op op_addU (od_add (s := true)) (de_op op_mulU (od_mul (s := true)) (de_var 16) (de_ix rfl (de_ix rfl (de_var 12) (de_var 18) (fun _ _ => rfl)) (de_int (s := true)) (fun _ _ => rfl))) (de_op op_mulU (od_mul (s := true)) (de_op op_mulU (od_mul (s := true)) (de_ix rfl (de_var 15) (de_var 18) (fun _ _ => rfl)) (de_ix rfl (de_ix rfl (de_var 12) (de_var 18) (fun _ _ => rfl)) (de_int (s := true)) (fun _ _ => rfl))) (de_var 17))) (ea_d (de_op op_mulU (od_mul (s := true)) (de_var 17) (de_ix rfl (de_ix rfl (de_var 12) (de_var 18) (fun _ _ => rfl)) (de_int (s := true)) (fun _ _ => rfl))) ea_nil))))))
  (nss_cons (ns_lift fun _ => (ds_if (dt_pw (dw_or (dt_not (dt_val (de_callP c__law_equals rfl hr kb__law_equals_3 (by decide) (by rfl) (da_cons (de_callP0 c_weighed rfl hr kb_weighed_0_point_coefficients (by decide) (by rfl) (dk_cons (de_callT (s := true) call_tuple_of cd_tuple (by rfl) T.m_tuple boot_tuple (da_cons (de_var 12) (da_nil (s := true)))) (dk_cons (de_var 15) (dk_nil (s := true))))) (da_cons (de_var 16) (da_cons (de_var 17) (da_nil (s := true)))))))) (dw_or1 (dt_cmp (op_neU hu) od_ne (de_callP c_weighed rfl hr kb_weighed_2 (by decide) (by rfl) (da_cons (de_tup (da_nil (s := true))) (da_cons (de_tup (da_nil (s := true))) (da_nil (s := true))))) (de_tup (da_cons (de_int (s := true)) (da_cons (de_int (s := true)) (da_nil (s := true))))) (nomark _))))) (dss_one (ds_ret (de_bl (s := true)))) dss_nil))
  (nss_cons (ns_set 19 nd (ne_callR 2 c__law_odd rfl rfl hr (kb__law_odd_2) (by decide) (by rfl) (na_lift fun _ => (da_cons (de_var 3) (da_nil (s := true))))))
  (nss_cons (ns_lift fun _ => (ds_if (dt_pw (dw_or (dt_not (dt_val (de_callP c__law_truth rfl hr kb__law_truth_2 (by decide) (by rfl) (da_cons (de_callP c_is_fraction rfl hr kb_is_fraction_1 (by decide) (by rfl) (da_cons (de_var 19) (da_nil (s := true)))) (da_cons (de_callP c__law_is rfl hr kb__law_is_1 (by decide) (by rfl) (da_cons (de_var 19) (da_nil (s := true)))) (da_nil (s := true))))))) (dw_or (dt_cmp op_isnotU od_isnot (de_callP0 c_is_fraction rfl hr kb_is_fraction_0_value (by decide) (by rfl) (dk_cons (de_var 3) (dk_nil (s := true)))) (de_bl (s := true)) (nomark _)) (dw_or1 (dt_cmp op_isnotU od_isnot (de_callP c_less rfl hr kb_less_2 (by decide) (by rfl) (da_cons (de_var 3) (da_cons (de_var 3) (da_nil (s := true))))) (de_bl (s := true)) (nomark _)))))) (dss_one (ds_ret (de_bl (s := true)))) dss_nil))
  (nss_one (ns_if (nt_pw (nw_or (nt_not (nt_val (ne_callR 2 c__law_ranges_right rfl rfl hr (kb__law_ranges_right_1) (by decide) (by rfl) (na_lift fun _ => (da_nil (s := true)))))) (nw_or1 (nt_not (nt_val (ne_callR 2 c__law_near_right rfl rfl hr (kb__law_near_right_1) (by decide) (by rfl) (na_lift fun _ => (da_nil (s := true))))))))) (nss_one (ns_lift fun _ => (ds_ret (de_bl (s := true))))) (nss_lift fun _ => dss_nil)))))))))))))))))))))))))) (by decide))
theorem dv_law (T : Tx W mg) {TT : List (Addr × Str)} {er : Errs} (c__law_equals : Cal P w W.K mg base 3 "_law_equals" s__law_equals ["_law_value", "_law_top", "_law_bottom"] (spP W 3 F__law_equals)) (c__law_fraction : Cal P w W.K mg base 3 "_law_fraction" s__law_fraction ["_law_box_here"] (spN W (bxN TT) 3 1 F__law_fraction)) (c__law_is : Cal P w W.K mg base 2 "_law_is" s__law_is ["_law_value"] (spP W 1 F__law_is)) (c__law_near_right : Cal P w W.K mg base 4 "_law_near_right" s__law_near_right ["_law_box_here"] (spN W (bxN TT) 2 1 F__law_near_right)) (c__law_odd : Cal P w W.K mg base 3 "_law_odd" s__law_odd ["_law_box_here", "_law_one"] (spN W (bxN TT) 1 2 F__law_odd)) (c__law_pick : Cal P w W.K mg base 2 "_law_pick" s__law_pick ["_law_box_here", "_law_some"] (spN W (bxN TT) 1 2 F__law_pick)) (c__law_ranges_right : Cal P w W.K mg base 10 "_law_ranges_right" s__law_ranges_right ["_law_box_here"] (spN W (bxN TT) 22 1 F__law_ranges_right)) (c__law_take : Cal P w W.K mg base 1 "_law_take" s__law_take ["_law_box_here", "_law_many"] (spN W (bxN TT) 1 2 F__law_take)) (c__law_truth : Cal P w W.K mg base 1 "_law_truth" s__law_truth ["_law_value", "_law_due"] (spP W 2 F__law_truth)) (c_fraction_of : CalX P w W.K mg base 3 "fraction_of" s_fraction_of ["top", "bottom"] (spXM W er 2 F_fraction_of)) (c_greatest_of : CalX P w W.K mg base 3 "greatest_of" s_greatest_of ["some"] (spXM W er 1 F_greatest_of)) (c_is_fraction : Cal P w W.K mg base 2 "is_fraction" s_is_fraction ["value"] (spP W 1 F_is_fraction)) (c_least_of : CalX P w W.K mg base 3 "least_of" s_least_of ["some"] (spXM W er 1 F_least_of)) (c_less : Cal P w W.K mg base 1 "less" s_less ["one", "other"] (spP W 2 F_less)) (c_minus : Cal P w W.K mg base 4 "minus" s_minus ["one", "other"] (spP W 2 F_minus)) (c_plus : Cal P w W.K mg base 4 "plus" s_plus ["one", "other"] (spP W 2 F_plus)) (c_ratio : CalX P w W.K mg base 4 "ratio" s_ratio ["one", "other"] (spXM W er 2 F_ratio)) (c_simplest : CalX P w W.K mg base 3 "simplest" s_simplest ["low", "high"] (spXM W er 2 F_simplest)) (c_times : Cal P w W.K mg base 4 "times" s_times ["one", "other"] (spP W 2 F_times)) (c_weighed : Cal P w W.K mg base 4 "weighed" s_weighed ["coefficients", "point"] (spP W 2 F_weighed)) (th__law_refused : CalTh P w W.K mg base "_law_refused" "_law_action" s__law_refused ["_law_action", "error"] er none [("InvalidNumber", "number"), ("Refused", "refused")]) {cL PL : Addr} (TB : TabB base mg cL PL) (mT : (PL, (envOfC "law" (defScope s_law) 0 0 (.ref cL)).qual ++ "<lambda>") ∈ TT) (uT : ∀ p ∈ TT, p.1 = PL → p.2 = (envOfC "law" (defScope s_law) 0 0 (.ref cL)).qual ++ "<lambda>") (c__law_box : Cal P w W.K mg base 1 "_law_box" s__law_box ["_law_script", "_law_k"] (spB W 2 F__law_box)) (A : Around) (env : List Env) (s : Shared) (H : Hp) (E : XK) {f : Addr} (hr : Rg 13 (A.deeper (envOfC "law" (defScope s_law) s.heap.objs.size f (.ref cL)))) :
    PSs (cxOf CX0 P w W.K mg base ["_law_script", "_law_k", "_law_box_here", "_law_one", "_law_other", "_law_third", "_law_a", "_law_b", "_law_c", "_law_d", "_law_factor", "_law_wrong", "_law_some", "_law_low", "_law_high", "_law_amounts", "_law_top", "_law_bottom", "_law_at", "_law_odd_here", "_law_item"] "law" (defScope s_law) f (.ref cL) A env s H E).nox (defBody s_law) (upS ⟨W, tabR TT, (tabR TT).M, H⟩ wl_law) := by
  have hu : (A.deeper (envOfC "law" (defScope s_law) s.heap.objs.size f (.ref cL))).units + 65 < cLine := by have := hr.room.un; omega
  have nd := sc_law.nd
  exact dss_cons (ds_for PassesOwn.never rfl (di_rng1 (by rfl) T.m_range (da_cons (de_op op_addU (od_add (s := true)) (de_int (s := true)) (de_callT (s := true) call_int1 cd_int (by rfl) T.m_int boot_int (da_cons (de_cmp op_gt (od_gt (s := true)) (de_slen (s := true) 0 rfl (by rfl) T.m_len) (de_int (s := true)) (nomark _)) (da_nil (s := true))))) (da_nil (s := true)))) (dg_name 1 nd) (dss_boxed (T := TT) c__law_box rfl hr kb__law_box_2 (by decide) (by rfl) nd (fun b H1 => dv_lawb (RR := bxN TT) T c__law_equals c__law_fraction c__law_is c__law_near_right c__law_odd c__law_pick c__law_ranges_right c__law_take c__law_truth c_fraction_of c_greatest_of c_is_fraction c_least_of c_less c_minus c_plus c_ratio c_simplest c_times c_weighed th__law_refused (fun b c n => bxN_res TT b c n) TB mT uT A env s H E (bxN TT b b).M b b H1 hr) (by decide) rfl rfl rfl rfl (by decide) (by decide) (by decide) (by decide) (by decide)))
    (dss_one (ds_ret (de_and (de_cmp (op_eqU hu) (od_eq (s := true)) (de_callXMP c_simplest rfl hr kb_simplest_2 (by decide) (by rfl) (da_cons (de_tup (da_cons (de_int (s := true)) (da_cons (de_int (s := true)) (da_nil (s := true))))) (da_cons (de_tup (da_cons (de_int (s := true)) (da_cons (de_int (s := true)) (da_nil (s := true))))) (da_nil (s := true))))) (de_tup (da_cons (de_int (s := true)) (da_cons (de_int (s := true)) (da_nil (s := true))))) (nomark _)) (de_and (de_cmp op_isU (od_is (s := true)) (de_callP c_is_fraction rfl hr kb_is_fraction_1 (by decide) (by rfl) (da_cons (de_tup (da_cons (de_int (s := true)) (da_cons (de_int (s := true)) (da_nil (s := true))))) (da_nil (s := true)))) (de_bl (s := true)) (nomark _)) (de_one (de_cmp op_isU (od_is (s := true)) (de_callP c_is_fraction rfl hr kb_is_fraction_1 (by decide) (by rfl) (da_cons (de_tup (da_cons (de_int (s := true)) (da_cons (de_int (s := true)) (da_nil (s := true))))) (da_nil (s := true)))) (de_bl (s := true)) (nomark _)))))))

end
section
variable {P : Program} {w : World} {mg : Str → Option Value} {base : Heap} {W : Wd}
/-- the law: the drawn state is made, then the rest of the text -/
theorem own_caught {K : PySem.W.Frag} {S : Addr} (b : PySem.W.subIn K (.ref S) (.type "BaseException") = some true) (c : PySem.W.isClsIn K S = true) (t : PySem.W.typeIn K (.ref S) = some (.type "type")) (s : PySem.W.subIn K (.ref S) (.ref S) = some true) : PySem.W.exmOne K (.ref S) (.ref S) = some true := by
  unfold PySem.W.exmOne PySem.W.kitCls
  have c2 : (PySem.W.clsIn K S).isSome = true := c
  simp only [b, c2, t, s]
  rfl
theorem ok_law (T : Tx W mg) {er : Errs} {TT : List (Addr × Str)} (c__law_equals : Cal P w W.K mg base 3 "_law_equals" s__law_equals ["_law_value", "_law_top", "_law_bottom"] (spP W 3 F__law_equals)) (c__law_fraction : Cal P w W.K mg base 3 "_law_fraction" s__law_fraction ["_law_box_here"] (spN W (bxN TT) 3 1 F__law_fraction)) (c__law_is : Cal P w W.K mg base 2 "_law_is" s__law_is ["_law_value"] (spP W 1 F__law_is)) (c__law_near_right : Cal P w W.K mg base 4 "_law_near_right" s__law_near_right ["_law_box_here"] (spN W (bxN TT) 2 1 F__law_near_right)) (c__law_odd : Cal P w W.K mg base 3 "_law_odd" s__law_odd ["_law_box_here", "_law_one"] (spN W (bxN TT) 1 2 F__law_odd)) (c__law_pick : Cal P w W.K mg base 2 "_law_pick" s__law_pick ["_law_box_here", "_law_some"] (spN W (bxN TT) 1 2 F__law_pick)) (c__law_ranges_right : Cal P w W.K mg base 10 "_law_ranges_right" s__law_ranges_right ["_law_box_here"] (spN W (bxN TT) 22 1 F__law_ranges_right)) (c__law_take : Cal P w W.K mg base 1 "_law_take" s__law_take ["_law_box_here", "_law_many"] (spN W (bxN TT) 1 2 F__law_take)) (c__law_truth : Cal P w W.K mg base 1 "_law_truth" s__law_truth ["_law_value", "_law_due"] (spP W 2 F__law_truth)) (c_fraction_of : CalX P w W.K mg base 3 "fraction_of" s_fraction_of ["top", "bottom"] (spXM W er 2 F_fraction_of)) (c_greatest_of : CalX P w W.K mg base 3 "greatest_of" s_greatest_of ["some"] (spXM W er 1 F_greatest_of)) (c_is_fraction : Cal P w W.K mg base 2 "is_fraction" s_is_fraction ["value"] (spP W 1 F_is_fraction)) (c_least_of : CalX P w W.K mg base 3 "least_of" s_least_of ["some"] (spXM W er 1 F_least_of)) (c_less : Cal P w W.K mg base 1 "less" s_less ["one", "other"] (spP W 2 F_less)) (c_minus : Cal P w W.K mg base 4 "minus" s_minus ["one", "other"] (spP W 2 F_minus)) (c_plus : Cal P w W.K mg base 4 "plus" s_plus ["one", "other"] (spP W 2 F_plus)) (c_ratio : CalX P w W.K mg base 4 "ratio" s_ratio ["one", "other"] (spXM W er 2 F_ratio)) (c_simplest : CalX P w W.K mg base 3 "simplest" s_simplest ["low", "high"] (spXM W er 2 F_simplest)) (c_times : Cal P w W.K mg base 4 "times" s_times ["one", "other"] (spP W 2 F_times)) (c_weighed : Cal P w W.K mg base 4 "weighed" s_weighed ["coefficients", "point"] (spP W 2 F_weighed)) (th__law_refused : CalTh P w W.K mg base "_law_refused" "_law_action" s__law_refused ["_law_action", "error"] er none [("InvalidNumber", "number"), ("Refused", "refused")]) (c__law_box : Cal P w W.K mg base 1 "_law_box" s__law_box ["_law_script", "_law_k"] (spB W 2 F__law_box)) {cs : List (Addr × Addr)} (hT : ∀ p ∈ TT, ∃ q ∈ cs, q.2 = p.1) {cL PL : Addr} (TB : TabB base mg cL PL) (mT : (PL, (envOfC "law" (defScope s_law) 0 0 (.ref cL)).qual ++ "<lambda>") ∈ TT) (uT : ∀ p ∈ TT, p.1 = PL → p.2 = (envOfC "law" (defScope s_law) 0 0 (.ref cL)).qual ++ "<lambda>") {f : Addr} {fd : FuncData} (ca : CodeAt W.K f cL) (Fn : Fun W.K "law" "law" s_law f fd) :
    FnG P w W.K mg base CX0 14 f fd ["_law_script"] (spLawT W.K 63 cs) := by
  refine FnG.mkL Fn ca sc_law (fun vs H Q E h => ?_) fun A env s H vs Q E hr h => ?_
  · obtain ⟨a, ns, rfl, _⟩ := h
    rfl
  obtain ⟨a, ns, rfl, hS, hl, hTb, hQ⟩ := h
  have hI : Tabs TT H := fun p hp => TabS.nil (by
    obtain ⟨q, hq, e⟩ := hT p hp
    rw [← e]
    exact hTb q hq)
  refine ⟨_, (dv_law T c__law_equals c__law_fraction c__law_is c__law_near_right c__law_odd c__law_pick c__law_ranges_right c__law_take c__law_truth c_fraction_of c_greatest_of c_is_fraction c_least_of c_less c_minus c_plus c_ratio c_simplest c_times c_weighed th__law_refused TB mT uT c__law_box A env s H E hr).nox, [], _, _, retX (fun d => d = .bool true), sta_startS (G := ⟨W, tabR TT, (tabR TT).M, H⟩) (by decide) hI (fun x z => (tabR TT).al H x hI z) (fun _ z => z) hS, sem_law ns (by omega), ?_, ?_, ?_, ?_⟩
  · exact fun _ _ _ _ _ z => nomatch z
  · intro v H2 d z m _ _
    have z : d = .bool true := z
    subst z
    obtain rfl : v = .bl true := m
    exact hQ _
  · exact fun _ _ _ _ _ z => z
  · exact fun _ _ _ _ _ z => z
end
theorem all_mk {P : Program} {w : World} {K : PySem.W.Frag} {h : Heap} {mg : Str → Option Value} {fa : Addr} (X : K.In h) (G : h.Ns mainGlobals mg) (hfa : mg "law" = some (.ref fa))
    {f0 f1 f2 f3 f4 f5 f6 f7 f8 f9 f10 f11 f12 f13 f14 f15 f16 f17 f18 f19 f20 f21 f22 f23 f24 f25 f26 f27 f28 f29 f30 f31 fEInvalidNumber fERefused  : Addr}
    {od0 an0 od1 an1 od2 an2 od3 an3 od4 an4 od5 an5 od6 an6 od7 an7 od8 an8 od9 an9 od10 an10 od11 an11 od12 an12 od13 an13 od14 an14 od15 an15 od16 an16 od17 an17 od18 an18 od19 an19 od20 an20 od21 an21 od22 an22 od23 an23 od24 an24 od25 an25 od26 an26 od27 an27 od28 an28 od29 an29 od30 an30 od31 an31 odEInvalidNumber anEInvalidNumber odERefused anERefused : Option Addr} {sl0 sl1 sl2 sl3 sl4 sl5 sl6 sl7 sl8 sl9 sl10 sl11 sl12 sl13 sl14 sl15 sl16 sl17 sl18 sl19 sl20 sl21 sl22 sl23 sl24 sl25 sl26 sl27 sl28 sl29 sl30 sl31 slEInvalidNumber slERefused : Array (Option Value)} {oc0 kV0 dc0 pm0 ct0 cd0 oc1 kV1 dc1 pm1 ct1 cd1 oc2 kV2 dc2 pm2 ct2 cd2 oc3 kV3 dc3 pm3 ct3 cd3 oc4 kV4 dc4 pm4 ct4 cd4 oc5 kV5 dc5 pm5 ct5 cd5 oc6 kV6 dc6 pm6 ct6 cd6 oc7 kV7 dc7 pm7 ct7 cd7 oc8 kV8 dc8 pm8 ct8 cd8 oc9 kV9 dc9 pm9 ct9 cd9 oc10 kV10 dc10 pm10 ct10 cd10 oc11 kV11 dc11 pm11 ct11 cd11 oc12 kV12 dc12 pm12 ct12 cd12 oc13 kV13 dc13 pm13 ct13 cd13 oc14 kV14 dc14 pm14 ct14 cd14 oc15 kV15 dc15 pm15 ct15 cd15 oc16 kV16 dc16 pm16 ct16 cd16 oc17 kV17 dc17 pm17 ct17 cd17 oc18 kV18 dc18 pm18 ct18 cd18 oc19 kV19 dc19 pm19 ct19 cd19 oc20 kV20 dc20 pm20 ct20 cd20 oc21 kV21 dc21 pm21 ct21 cd21 oc22 kV22 dc22 pm22 ct22 cd22 oc23 kV23 dc23 pm23 ct23 cd23 oc24 kV24 dc24 pm24 ct24 cd24 oc25 kV25 dc25 pm25 ct25 cd25 oc26 kV26 dc26 pm26 ct26 oc27 kV27 dc27 pm27 ct27 cd27 oc28 kV28 dc28 pm28 ct28 cd28 oc29 kV29 dc29 pm29 ct29 oc30 kV30 dc30 pm30 ct30 cd30 oc31 kV31 dc31 pm31 ct31 cd31 ocEInvalidNumber kVEInvalidNumber dcEInvalidNumber pmEInvalidNumber ctEInvalidNumber cdEInvalidNumber ocERefused kVERefused dcERefused pmERefused ctERefused cdERefused : Value}
    {c26_ P26 c29_ P29 : Addr} {oe26 oe29 : Option Addr} {vs26 vs29 : Array Value} {se26 se29 : Array (Option Value)}
    {CEInvalidNumber CBInvalidNumber NInvalidNumber : Addr} {nmInvalidNumber qInvalidNumber : Str} {bsInvalidNumber : List Value} {snInvalidNumber : List Str} {suInvalidNumber : List Value} {abInvalidNumber : Bool} {coInvalidNumber : Option Bool} {ddInvalidNumber : Option Addr} {m0InvalidNumber m1InvalidNumber m2InvalidNumber m3InvalidNumber m5InvalidNumber : Option Value}
    {CERefused CBRefused NRefused : Addr} {nmRefused qRefused : Str} {bsRefused : List Value} {snRefused : List Str} {suRefused : List Value} {abRefused : Bool} {coRefused : Option Bool} {ddRefused : Option Addr} {m0Refused m1Refused m2Refused m3Refused m5Refused : Option Value}
    (a0 : PySem.W.nsIn K mainGlobals "is_whole" = some (some (.ref f0)))
    (l0 : K.lookup f0 = some ⟨oc0, od0, .func (PySem.W.fnOf "is_whole" "is_whole" (defArgs s_is_whole) (defBody s_is_whole) (defScope s_is_whole) .none kV0 dc0 pm0 an0 cd0 ct0), sl0⟩)
    (c0 : PySem.W.codeIn K cd0 "is_whole" = true)
    (k0 : PySem.W.keepIn K (.ref f0) = true)
    (a1 : PySem.W.nsIn K mainGlobals "fraction_of" = some (some (.ref f1)))
    (l1 : K.lookup f1 = some ⟨oc1, od1, .func (PySem.W.fnOf "fraction_of" "fraction_of" (defArgs s_fraction_of) (defBody s_fraction_of) (defScope s_fraction_of) .none kV1 dc1 pm1 an1 cd1 ct1), sl1⟩)
    (c1 : PySem.W.codeIn K cd1 "fraction_of" = true)
    (k1 : PySem.W.keepIn K (.ref f1) = true)
    (a2 : PySem.W.nsIn K mainGlobals "is_fraction" = some (some (.ref f2)))
    (l2 : K.lookup f2 = some ⟨oc2, od2, .func (PySem.W.fnOf "is_fraction" "is_fraction" (defArgs s_is_fraction) (defBody s_is_fraction) (defScope s_is_fraction) .none kV2 dc2 pm2 an2 cd2 ct2), sl2⟩)
    (c2 : PySem.W.codeIn K cd2 "is_fraction" = true)
    (k2 : PySem.W.keepIn K (.ref f2) = true)
    (a3 : PySem.W.nsIn K mainGlobals "plus" = some (some (.ref f3)))
    (l3 : K.lookup f3 = some ⟨oc3, od3, .func (PySem.W.fnOf "plus" "plus" (defArgs s_plus) (defBody s_plus) (defScope s_plus) .none kV3 dc3 pm3 an3 cd3 ct3), sl3⟩)
    (c3 : PySem.W.codeIn K cd3 "plus" = true)
    (k3 : PySem.W.keepIn K (.ref f3) = true)
    (a4 : PySem.W.nsIn K mainGlobals "minus" = some (some (.ref f4)))
    (l4 : K.lookup f4 = some ⟨oc4, od4, .func (PySem.W.fnOf "minus" "minus" (defArgs s_minus) (defBody s_minus) (defScope s_minus) .none kV4 dc4 pm4 an4 cd4 ct4), sl4⟩)
    (c4 : PySem.W.codeIn K cd4 "minus" = true)
    (k4 : PySem.W.keepIn K (.ref f4) = true)
    (a5 : PySem.W.nsIn K mainGlobals "times" = some (some (.ref f5)))
    (l5 : K.lookup f5 = some ⟨oc5, od5, .func (PySem.W.fnOf "times" "times" (defArgs s_times) (defBody s_times) (defScope s_times) .none kV5 dc5 pm5 an5 cd5 ct5), sl5⟩)
    (c5 : PySem.W.codeIn K cd5 "times" = true)
    (k5 : PySem.W.keepIn K (.ref f5) = true)
    (a6 : PySem.W.nsIn K mainGlobals "ratio" = some (some (.ref f6)))
    (l6 : K.lookup f6 = some ⟨oc6, od6, .func (PySem.W.fnOf "ratio" "ratio" (defArgs s_ratio) (defBody s_ratio) (defScope s_ratio) .none kV6 dc6 pm6 an6 cd6 ct6), sl6⟩)
    (c6 : PySem.W.codeIn K cd6 "ratio" = true)
    (k6 : PySem.W.keepIn K (.ref f6) = true)
    (a7 : PySem.W.nsIn K mainGlobals "less" = some (some (.ref f7)))
    (l7 : K.lookup f7 = some ⟨oc7, od7, .func (PySem.W.fnOf "less" "less" (defArgs s_less) (defBody s_less) (defScope s_less) .none kV7 dc7 pm7 an7 cd7 ct7), sl7⟩)
    (c7 : PySem.W.codeIn K cd7 "less" = true)
    (k7 : PySem.W.keepIn K (.ref f7) = true)
    (a8 : PySem.W.nsIn K mainGlobals "least_of" = some (some (.ref f8)))
    (l8 : K.lookup f8 = some ⟨oc8, od8, .func (PySem.W.fnOf "least_of" "least_of" (defArgs s_least_of) (defBody s_least_of) (defScope s_least_of) .none kV8 dc8 pm8 an8 cd8 ct8), sl8⟩)
    (c8 : PySem.W.codeIn K cd8 "least_of" = true)
    (k8 : PySem.W.keepIn K (.ref f8) = true)
    (a9 : PySem.W.nsIn K mainGlobals "greatest_of" = some (some (.ref f9)))
    (l9 : K.lookup f9 = some ⟨oc9, od9, .func (PySem.W.fnOf "greatest_of" "greatest_of" (defArgs s_greatest_of) (defBody s_greatest_of) (defScope s_greatest_of) .none kV9 dc9 pm9 an9 cd9 ct9), sl9⟩)
    (c9 : PySem.W.codeIn K cd9 "greatest_of" = true)
    (k9 : PySem.W.keepIn K (.ref f9) = true)
    (a10 : PySem.W.nsIn K mainGlobals "weighed" = some (some (.ref f10)))
    (l10 : K.lookup f10 = some ⟨oc10, od10, .func (PySem.W.fnOf "weighed" "weighed" (defArgs s_weighed) (defBody s_weighed) (defScope s_weighed) .none kV10 dc10 pm10 an10 cd10 ct10), sl10⟩)
    (c10 : PySem.W.codeIn K cd10 "weighed" = true)
    (k10 : PySem.W.keepIn K (.ref f10) = true)
    (a11 : PySem.W.nsIn K mainGlobals "negative" = some (some (.ref f11)))
    (l11 : K.lookup f11 = some ⟨oc11, od11, .func (PySem.W.fnOf "negative" "negative" (defArgs s_negative) (defBody s_negative) (defScope s_negative) .none kV11 dc11 pm11 an11 cd11 ct11), sl11⟩)
    (c11 : PySem.W.codeIn K cd11 "negative" = true)
    (k11 : PySem.W.keepIn K (.ref f11) = true)
    (a12 : PySem.W.nsIn K mainGlobals "_simplest_above" = some (some (.ref f12)))
    (l12 : K.lookup f12 = some ⟨oc12, od12, .func (PySem.W.fnOf "_simplest_above" "_simplest_above" (defArgs s__simplest_above) (defBody s__simplest_above) (defScope s__simplest_above) .none kV12 dc12 pm12 an12 cd12 ct12), sl12⟩)
    (c12 : PySem.W.codeIn K cd12 "_simplest_above" = true)
    (k12 : PySem.W.keepIn K (.ref f12) = true)
    (a13 : PySem.W.nsIn K mainGlobals "simplest" = some (some (.ref f13)))
    (l13 : K.lookup f13 = some ⟨oc13, od13, .func (PySem.W.fnOf "simplest" "simplest" (defArgs s_simplest) (defBody s_simplest) (defScope s_simplest) .none kV13 dc13 pm13 an13 cd13 ct13), sl13⟩)
    (c13 : PySem.W.codeIn K cd13 "simplest" = true)
    (k13 : PySem.W.keepIn K (.ref f13) = true)
    (a14 : PySem.W.nsIn K mainGlobals "_law_box" = some (some (.ref f14)))
    (l14 : K.lookup f14 = some ⟨oc14, od14, .func (PySem.W.fnOf "_law_box" "_law_box" (defArgs s__law_box) (defBody s__law_box) (defScope s__law_box) .none kV14 dc14 pm14 an14 cd14 ct14), sl14⟩)
    (c14 : PySem.W.codeIn K cd14 "_law_box" = true)
    (k14 : PySem.W.keepIn K (.ref f14) = true)
    (a15 : PySem.W.nsIn K mainGlobals "_law_pick" = some (some (.ref f15)))
    (l15 : K.lookup f15 = some ⟨oc15, od15, .func (PySem.W.fnOf "_law_pick" "_law_pick" (defArgs s__law_pick) (defBody s__law_pick) (defScope s__law_pick) .none kV15 dc15 pm15 an15 cd15 ct15), sl15⟩)
    (c15 : PySem.W.codeIn K cd15 "_law_pick" = true)
    (k15 : PySem.W.keepIn K (.ref f15) = true)
    (a16 : PySem.W.nsIn K mainGlobals "_law_common" = some (some (.ref f16)))
    (l16 : K.lookup f16 = some ⟨oc16, od16, .func (PySem.W.fnOf "_law_common" "_law_common" (defArgs s__law_common) (defBody s__law_common) (defScope s__law_common) .none kV16 dc16 pm16 an16 cd16 ct16), sl16⟩)
    (c16 : PySem.W.codeIn K cd16 "_law_common" = true)
    (k16 : PySem.W.keepIn K (.ref f16) = true)
    (a17 : PySem.W.nsIn K mainGlobals "_law_least" = some (some (.ref f17)))
    (l17 : K.lookup f17 = some ⟨oc17, od17, .func (PySem.W.fnOf "_law_least" "_law_least" (defArgs s__law_least) (defBody s__law_least) (defScope s__law_least) .none kV17 dc17 pm17 an17 cd17 ct17), sl17⟩)
    (c17 : PySem.W.codeIn K cd17 "_law_least" = true)
    (k17 : PySem.W.keepIn K (.ref f17) = true)
    (a18 : PySem.W.nsIn K mainGlobals "_law_fraction" = some (some (.ref f18)))
    (l18 : K.lookup f18 = some ⟨oc18, od18, .func (PySem.W.fnOf "_law_fraction" "_law_fraction" (defArgs s__law_fraction) (defBody s__law_fraction) (defScope s__law_fraction) .none kV18 dc18 pm18 an18 cd18 ct18), sl18⟩)
    (c18 : PySem.W.codeIn K cd18 "_law_fraction" = true)
    (k18 : PySem.W.keepIn K (.ref f18) = true)
    (a19 : PySem.W.nsIn K mainGlobals "_law_is" = some (some (.ref f19)))
    (l19 : K.lookup f19 = some ⟨oc19, od19, .func (PySem.W.fnOf "_law_is" "_law_is" (defArgs s__law_is) (defBody s__law_is) (defScope s__law_is) .none kV19 dc19 pm19 an19 cd19 ct19), sl19⟩)
    (c19 : PySem.W.codeIn K cd19 "_law_is" = true)
    (k19 : PySem.W.keepIn K (.ref f19) = true)
    (a20 : PySem.W.nsIn K mainGlobals "_law_truth" = some (some (.ref f20)))
    (l20 : K.lookup f20 = some ⟨oc20, od20, .func (PySem.W.fnOf "_law_truth" "_law_truth" (defArgs s__law_truth) (defBody s__law_truth) (defScope s__law_truth) .none kV20 dc20 pm20 an20 cd20 ct20), sl20⟩)
    (c20 : PySem.W.codeIn K cd20 "_law_truth" = true)
    (k20 : PySem.W.keepIn K (.ref f20) = true)
    (a21 : PySem.W.nsIn K mainGlobals "_law_equals" = some (some (.ref f21)))
    (l21 : K.lookup f21 = some ⟨oc21, od21, .func (PySem.W.fnOf "_law_equals" "_law_equals" (defArgs s__law_equals) (defBody s__law_equals) (defScope s__law_equals) .none kV21 dc21 pm21 an21 cd21 ct21), sl21⟩)
    (c21 : PySem.W.codeIn K cd21 "_law_equals" = true)
    (k21 : PySem.W.keepIn K (.ref f21) = true)
    (a22 : PySem.W.nsIn K mainGlobals "_law_way" = some (some (.ref f22)))
    (l22 : K.lookup f22 = some ⟨oc22, od22, .func (PySem.W.fnOf "_law_way" "_law_way" (defArgs s__law_way) (defBody s__law_way) (defScope s__law_way) .none kV22 dc22 pm22 an22 cd22 ct22), sl22⟩)
    (c22 : PySem.W.codeIn K cd22 "_law_way" = true)
    (k22 : PySem.W.keepIn K (.ref f22) = true)
    (a23 : PySem.W.nsIn K mainGlobals "_law_end" = some (some (.ref f23)))
    (l23 : K.lookup f23 = some ⟨oc23, od23, .func (PySem.W.fnOf "_law_end" "_law_end" (defArgs s__law_end) (defBody s__law_end) (defScope s__law_end) .none kV23 dc23 pm23 an23 cd23 ct23), sl23⟩)
    (c23 : PySem.W.codeIn K cd23 "_law_end" = true)
    (k23 : PySem.W.keepIn K (.ref f23) = true)
    (a24 : PySem.W.nsIn K mainGlobals "_law_turn" = some (some (.ref f24)))
    (l24 : K.lookup f24 = some ⟨oc24, od24, .func (PySem.W.fnOf "_law_turn" "_law_turn" (defArgs s__law_turn) (defBody s__law_turn) (defScope s__law_turn) .none kV24 dc24 pm24 an24 cd24 ct24), sl24⟩)
    (c24 : PySem.W.codeIn K cd24 "_law_turn" = true)
    (k24 : PySem.W.keepIn K (.ref f24) = true)
    (a25 : PySem.W.nsIn K mainGlobals "_law_none_less" = some (some (.ref f25)))
    (l25 : K.lookup f25 = some ⟨oc25, od25, .func (PySem.W.fnOf "_law_none_less" "_law_none_less" (defArgs s__law_none_less) (defBody s__law_none_less) (defScope s__law_none_less) .none kV25 dc25 pm25 an25 cd25 ct25), sl25⟩)
    (c25 : PySem.W.codeIn K cd25 "_law_none_less" = true)
    (k25 : PySem.W.keepIn K (.ref f25) = true)
    (a26 : PySem.W.nsIn K mainGlobals "_law_ranges_right" = some (some (.ref f26)))
    (l26 : K.lookup f26 = some ⟨oc26, od26, .func (PySem.W.fnOf "_law_ranges_right" "_law_ranges_right" (defArgs s__law_ranges_right) (defBody s__law_ranges_right) (defScope s__law_ranges_right) .none kV26 dc26 pm26 an26 (.ref c26_) ct26), sl26⟩)
    (c26 : PySem.W.codeIn K (.ref c26_) "_law_ranges_right" = true)
    (k26 : PySem.W.keepIn K (.ref f26) = true)
    (a27 : PySem.W.nsIn K mainGlobals "_law_odd" = some (some (.ref f27)))
    (l27 : K.lookup f27 = some ⟨oc27, od27, .func (PySem.W.fnOf "_law_odd" "_law_odd" (defArgs s__law_odd) (defBody s__law_odd) (defScope s__law_odd) .none kV27 dc27 pm27 an27 cd27 ct27), sl27⟩)
    (c27 : PySem.W.codeIn K cd27 "_law_odd" = true)
    (k27 : PySem.W.keepIn K (.ref f27) = true)
    (a28 : PySem.W.nsIn K mainGlobals "_law_near_right" = some (some (.ref f28)))
    (l28 : K.lookup f28 = some ⟨oc28, od28, .func (PySem.W.fnOf "_law_near_right" "_law_near_right" (defArgs s__law_near_right) (defBody s__law_near_right) (defScope s__law_near_right) .none kV28 dc28 pm28 an28 cd28 ct28), sl28⟩)
    (c28 : PySem.W.codeIn K cd28 "_law_near_right" = true)
    (k28 : PySem.W.keepIn K (.ref f28) = true)
    (a29 : PySem.W.nsIn K mainGlobals "law" = some (some (.ref f29)))
    (l29 : K.lookup f29 = some ⟨oc29, od29, .func (PySem.W.fnOf "law" "law" (defArgs s_law) (defBody s_law) (defScope s_law) .none kV29 dc29 pm29 an29 (.ref c29_) ct29), sl29⟩)
    (c29 : PySem.W.codeIn K (.ref c29_) "law" = true)
    (k29 : PySem.W.keepIn K (.ref f29) = true)
    (a30 : PySem.W.nsIn K mainGlobals "_law_take" = some (some (.ref f30)))
    (l30 : K.lookup f30 = some ⟨oc30, od30, .func (PySem.W.fnOf "_law_take" "_law_take" (defArgs s__law_take) (defBody s__law_take) (defScope s__law_take) .none kV30 dc30 pm30 an30 cd30 ct30), sl30⟩)
    (c30 : PySem.W.codeIn K cd30 "_law_take" = true)
    (k30 : PySem.W.keepIn K (.ref f30) = true)
    (a31 : PySem.W.nsIn K mainGlobals "_law_refused" = some (some (.ref f31)))
    (l31 : K.lookup f31 = some ⟨oc31, od31, .func (PySem.W.fnOf "_law_refused" "_law_refused" (defArgs s__law_refused) (defBody s__law_refused) (defScope s__law_refused) .none kV31 dc31 pm31 an31 cd31 ct31), sl31⟩)
    (c31 : PySem.W.codeIn K cd31 "_law_refused" = true)
    (k31 : PySem.W.keepIn K (.ref f31) = true)
    (aEInvalidNumber : PySem.W.nsIn K mainGlobals "InvalidNumber" = some (some (.ref CEInvalidNumber)))
    (xEInvalidNumber : K.lookup CEInvalidNumber = some (excClassObj nmInvalidNumber qInvalidNumber CEInvalidNumber NInvalidNumber bsInvalidNumber [.ref CBInvalidNumber, .type "ValueError", .type "Exception", .type "BaseException", .type "object"] true snInvalidNumber suInvalidNumber abInvalidNumber coInvalidNumber ddInvalidNumber m0InvalidNumber m1InvalidNumber m2InvalidNumber m3InvalidNumber m5InvalidNumber "ValueError.__new__"))
    (saEInvalidNumber : PySem.W.findIn K (.ref CEInvalidNumber) "__setattr__" = some (some (.builtin "object.__setattr__")))
    (gaEInvalidNumber : PySem.W.findIn K (.ref CEInvalidNumber) "__getattribute__" = some (some (.builtin "BaseException.__getattribute__")))
    (ggEInvalidNumber : PySem.W.findIn K (.ref CEInvalidNumber) "__getattr__" = some none)
    (nbEInvalidNumber : PySem.W.findIn K (.ref CEInvalidNumber) "word" = some none)
    (fiEInvalidNumber : PySem.W.findIn K (.ref CEInvalidNumber) "__init__" = some (some (.ref fEInvalidNumber)))
    (tyEInvalidNumber : PySem.W.typeIn K (.ref fEInvalidNumber) = some (.type "function"))
    (lEInvalidNumber : K.lookup fEInvalidNumber = some ⟨ocEInvalidNumber, odEInvalidNumber, .func (PySem.W.fnOf "__init__" "InvalidNumber.__init__" (defArgs s_E_InvalidNumber) (defBody s_E_InvalidNumber) (defScope s_E_InvalidNumber) .none kVEInvalidNumber dcEInvalidNumber pmEInvalidNumber anEInvalidNumber cdEInvalidNumber ctEInvalidNumber), slEInvalidNumber⟩)
    (cEInvalidNumber : PySem.W.codeIn K cdEInvalidNumber "InvalidNumber.__init__" = true)
    (kEInvalidNumber : PySem.W.keepIn K (.ref fEInvalidNumber) = true)
    (kkEInvalidNumber : PySem.W.keepIn K (.ref CEInvalidNumber) = true)
    (exEInvalidNumber : PySem.W.subIn K (.ref CEInvalidNumber) (.type "BaseException") = some true)
    (tycInvalidNumber : PySem.W.typeIn K (.ref CEInvalidNumber) = some (.type "type"))
    (hdEInvalidNumber : PySem.W.hasDictIn K CEInvalidNumber = true)
    (icEInvalidNumber : PySem.W.isClsIn K CEInvalidNumber = true)
    (ssEInvalidNumber : PySem.W.subIn K (.ref CEInvalidNumber) (.ref CEInvalidNumber) = some true)
    (aERefused : PySem.W.nsIn K mainGlobals "Refused" = some (some (.ref CERefused)))
    (xERefused : K.lookup CERefused = some (excClassObj nmRefused qRefused CERefused NRefused bsRefused [.ref CBRefused, .type "ValueError", .type "Exception", .type "BaseException", .type "object"] true snRefused suRefused abRefused coRefused ddRefused m0Refused m1Refused m2Refused m3Refused m5Refused "ValueError.__new__"))
    (saERefused : PySem.W.findIn K (.ref CERefused) "__setattr__" = some (some (.builtin "object.__setattr__")))
    (gaERefused : PySem.W.findIn K (.ref CERefused) "__getattribute__" = some (some (.builtin "BaseException.__getattribute__")))
    (ggERefused : PySem.W.findIn K (.ref CERefused) "__getattr__" = some none)
    (nbERefused : PySem.W.findIn K (.ref CERefused) "word" = some none)
    (fiERefused : PySem.W.findIn K (.ref CERefused) "__init__" = some (some (.ref fERefused)))
    (tyERefused : PySem.W.typeIn K (.ref fERefused) = some (.type "function"))
    (lERefused : K.lookup fERefused = some ⟨ocERefused, odERefused, .func (PySem.W.fnOf "__init__" "Refused.__init__" (defArgs s_E_Refused) (defBody s_E_Refused) (defScope s_E_Refused) .none kVERefused dcERefused pmERefused anERefused cdERefused ctERefused), slERefused⟩)
    (cERefused : PySem.W.codeIn K cdERefused "Refused.__init__" = true)
    (kERefused : PySem.W.keepIn K (.ref fERefused) = true)
    (kkERefused : PySem.W.keepIn K (.ref CERefused) = true)
    (exERefused : PySem.W.subIn K (.ref CERefused) (.type "BaseException") = some true)
    (tycRefused : PySem.W.typeIn K (.ref CERefused) = some (.type "type"))
    (hdERefused : PySem.W.hasDictIn K CERefused = true)
    (icERefused : PySem.W.isClsIn K CERefused = true)
    (ssERefused : PySem.W.subIn K (.ref CERefused) (.ref CERefused) = some true)
    (vc26 : K.lookup c26_ = some ⟨.type "code", oe26, .fields vs26, se26⟩)
    (pc26 : vs26[11]? = some (.ref P26))
    (hc26 : PySem.W.codeHdIn K c26_ P26 = true)
    (uc26 : K.lookup P26 = none)
    (em26 : h.get? P26 = some { cls := .none, data := .fields #[] })
    (vc29 : K.lookup c29_ = some ⟨.type "code", oe29, .fields vs29, se29⟩)
    (pc29 : vs29[11]? = some (.ref P29))
    (hc29 : PySem.W.codeHdIn K c29_ P29 = true)
    (uc29 : K.lookup P29 = none)
    (em29 : h.get? P29 = some { cls := .none, data := .fields #[] })
    (ne26_29 : P26 ≠ P29)
    (sx : PySem.W.subIn K (.ref CERefused) (.ref CEInvalidNumber) = some false)
    (zabs : PySem.W.nsIn K mainGlobals "abs" = some none)
    (zall : PySem.W.nsIn K mainGlobals "all" = some none)
    (zbool : PySem.W.nsIn K mainGlobals "bool" = some none)
    (zgcd : PySem.W.nsIn K mainGlobals "gcd" = some (some (.builtin "math.gcd")))
    (zint : PySem.W.nsIn K mainGlobals "int" = some none)
    (zisinstance : PySem.W.nsIn K mainGlobals "isinstance" = some none)
    (zlen : PySem.W.nsIn K mainGlobals "len" = some none)
    (zlist : PySem.W.nsIn K mainGlobals "list" = some none)
    (zmin : PySem.W.nsIn K mainGlobals "min" = some none)
    (zrange : PySem.W.nsIn K mainGlobals "range" = some none)
    (zreversed : PySem.W.nsIn K mainGlobals "reversed" = some none)
    (ztuple : PySem.W.nsIn K mainGlobals "tuple" = some none)
    (zzip : PySem.W.nsIn K mainGlobals "zip" = some none)
    : ∃ (fd : FuncData) (cs : List (Addr × Addr)), TabsIn K h cs ∧ (∀ (s : Shared) (v : Value), BindsTo s fd ⟨[v], []⟩ [("_law_script", v)]) ∧ ∀ base : Heap, K.In base → base.Ns mainGlobals mg → (∀ q ∈ cs, TabB base mg q.1 q.2) → FnG P w K mg base CX0 14 fa fd ["_law_script"] (spLawT K 63 cs) := by
  have e := hfa.symm.trans (PySem.W.mg_of X G a29)
  cases e
  have T : Tx ⟨K, fun _ => 0⟩ mg := ⟨PySem.W.mg_none_of X G zabs, PySem.W.mg_none_of X G zall, PySem.W.mg_none_of X G zbool, PySem.W.mg_of X G zgcd, PySem.W.mg_none_of X G zint, PySem.W.mg_none_of X G zisinstance, PySem.W.mg_none_of X G zlen, PySem.W.mg_none_of X G zlist, PySem.W.mg_none_of X G zmin, PySem.W.mg_none_of X G zrange, PySem.W.mg_none_of X G zreversed, PySem.W.mg_none_of X G ztuple, PySem.W.mg_none_of X G zzip⟩
  refine ⟨PySem.W.fnOf "law" "law" (defArgs s_law) (defBody s_law) (defScope s_law) .none kV29 dc29 pm29 an29 (.ref c29_) ct29, [(c26_, P26), (c29_, P29)], ⟨fun q hq => ?_, fun q hq => ?_, fun q hq => ?_⟩, fun s v => .of_eq rfl, fun base _ _ TBs => ?_⟩
  · rcases List.mem_cons.mp hq with rfl | hq
    · exact em26
    rcases List.mem_cons.mp hq with rfl | hq
    · exact em29
    cases hq
  · rcases List.mem_cons.mp hq with rfl | hq
    · exact uc26
    rcases List.mem_cons.mp hq with rfl | hq
    · exact uc29
    cases hq
  · rcases List.mem_cons.mp hq with rfl | hq
    · exact PySem.W.codeHd_of_K X hc26
    rcases List.mem_cons.mp hq with rfl | hq
    · exact PySem.W.codeHd_of_K X hc29
    cases hq
  have TB26 := TBs (c26_, P26) (by simp)
  have TB29 := TBs (c29_, P29) (by simp)
  let TT : List (Addr × Str) := [(P26, (envOfC "_law_ranges_right" (defScope s__law_ranges_right) 0 0 (.ref c26_)).qual ++ "<lambda>"), (P29, (envOfC "law" (defScope s_law) 0 0 (.ref c29_)).qual ++ "<lambda>")]
  have mT26 : (P26, (envOfC "_law_ranges_right" (defScope s__law_ranges_right) 0 0 (.ref c26_)).qual ++ "<lambda>") ∈ TT := by simp [TT]
  have uT26 : ∀ p ∈ TT, p.1 = P26 → p.2 = (envOfC "_law_ranges_right" (defScope s__law_ranges_right) 0 0 (.ref c26_)).qual ++ "<lambda>" := fun p hp e => by
    rcases List.mem_cons.mp hp with rfl | hp
    · rfl
    rcases List.mem_cons.mp hp with rfl | hp
    · exact absurd e (Ne.symm ne26_29)
    cases hp
  have mT29 : (P29, (envOfC "law" (defScope s_law) 0 0 (.ref c29_)).qual ++ "<lambda>") ∈ TT := by simp [TT]
  have uT29 : ∀ p ∈ TT, p.1 = P29 → p.2 = (envOfC "law" (defScope s_law) 0 0 (.ref c29_)).qual ++ "<lambda>" := fun p hp e => by
    rcases List.mem_cons.mp hp with rfl | hp
    · exact absurd e ne26_29
    rcases List.mem_cons.mp hp with rfl | hp
    · rfl
    cases hp
  have O_InvalidNumber : OexC K CEInvalidNumber := ⟨⟨nmInvalidNumber, qInvalidNumber, NInvalidNumber, bsInvalidNumber, _, snInvalidNumber, suInvalidNumber, abInvalidNumber, coInvalidNumber, ddInvalidNumber, m0InvalidNumber, m1InvalidNumber, m2InvalidNumber, m3InvalidNumber, m5InvalidNumber, xEInvalidNumber, rfl⟩, saEInvalidNumber, exEInvalidNumber, tycInvalidNumber, kkEInvalidNumber⟩
  have ER_InvalidNumber : ErrC K mg "InvalidNumber" "word" CEInvalidNumber fEInvalidNumber s_E_InvalidNumber _ := ⟨PySem.W.mg_of X G aEInvalidNumber, O_InvalidNumber, nbEInvalidNumber, gaEInvalidNumber, ggEInvalidNumber, hdEInvalidNumber, fiEInvalidNumber, tyEInvalidNumber, own_caught exEInvalidNumber icEInvalidNumber tycInvalidNumber ssEInvalidNumber, (fun_mk (st := s_E_InvalidNumber) lEInvalidNumber cEInvalidNumber kEInvalidNumber).binds (ps := ["self", "word"]) (fun _ _ _ _ _ _ us hl => match us, hl with | [_, _], _ => rfl)⟩
  have CE_InvalidNumber : CalE P w K mg base "InvalidNumber" "word" CEInvalidNumber := ⟨_, _, _, ER_InvalidNumber, ok_E_InvalidNumber O_InvalidNumber nbEInvalidNumber (fun_mk (st := s_E_InvalidNumber) lEInvalidNumber cEInvalidNumber kEInvalidNumber)⟩
  have O_Refused : OexC K CERefused := ⟨⟨nmRefused, qRefused, NRefused, bsRefused, _, snRefused, suRefused, abRefused, coRefused, ddRefused, m0Refused, m1Refused, m2Refused, m3Refused, m5Refused, xERefused, rfl⟩, saERefused, exERefused, tycRefused, kkERefused⟩
  have ER_Refused : ErrC K mg "Refused" "word" CERefused fERefused s_E_Refused _ := ⟨PySem.W.mg_of X G aERefused, O_Refused, nbERefused, gaERefused, ggERefused, hdERefused, fiERefused, tyERefused, own_caught exERefused icERefused tycRefused ssERefused, (fun_mk (st := s_E_Refused) lERefused cERefused kERefused).binds (ps := ["self", "word"]) (fun _ _ _ _ _ _ us hl => match us, hl with | [_, _], _ => rfl)⟩
  have CE_Refused : CalE P w K mg base "Refused" "word" CERefused := ⟨_, _, _, ER_Refused, ok_E_Refused O_Refused nbERefused (fun_mk (st := s_E_Refused) lERefused cERefused kERefused)⟩
  have C__law_common : Cal P w K mg base 1 "_law_common" s__law_common ["_law_numbers"] (spP ⟨K, fun _ => 0⟩ 1 F__law_common) := ⟨_, _, fun_mk (st := s__law_common) l16 c16 k16, PySem.W.mg_of X G a16, ok__law_common T (fun_mk (st := s__law_common) l16 c16 k16)⟩
  have C__law_is : Cal P w K mg base 2 "_law_is" s__law_is ["_law_value"] (spP ⟨K, fun _ => 0⟩ 1 F__law_is) := ⟨_, _, fun_mk (st := s__law_is) l19 c19 k19, PySem.W.mg_of X G a19, ok__law_is T C__law_common (fun_mk (st := s__law_is) l19 c19 k19)⟩
  have C__law_equals : Cal P w K mg base 3 "_law_equals" s__law_equals ["_law_value", "_law_top", "_law_bottom"] (spP ⟨K, fun _ => 0⟩ 3 F__law_equals) := ⟨_, _, fun_mk (st := s__law_equals) l21 c21 k21, PySem.W.mg_of X G a21, ok__law_equals T C__law_is (fun_mk (st := s__law_equals) l21 c21 k21)⟩
  have C__law_least : Cal P w K mg base 2 "_law_least" s__law_least ["_law_coefficients", "_law_bound"] (spP ⟨K, fun _ => 0⟩ 2 F__law_least) := ⟨_, _, fun_mk (st := s__law_least) l17 c17 k17, PySem.W.mg_of X G a17, ok__law_least T C__law_common (fun_mk (st := s__law_least) l17 c17 k17)⟩
  have C__law_take : Cal P w K mg base 1 "_law_take" s__law_take ["_law_box_here", "_law_many"] (spN ⟨K, fun _ => 0⟩ (bxN TT) 1 2 F__law_take) := ⟨_, _, fun_mk (st := s__law_take) l30 c30 k30, PySem.W.mg_of X G a30, ok__law_take T (fun_mk (st := s__law_take) l30 c30 k30)⟩
  have C__law_pick : Cal P w K mg base 2 "_law_pick" s__law_pick ["_law_box_here", "_law_some"] (spN ⟨K, fun _ => 0⟩ (bxN TT) 1 2 F__law_pick) := ⟨_, _, fun_mk (st := s__law_pick) l15 c15 k15, PySem.W.mg_of X G a15, ok__law_pick T C__law_take (fun_mk (st := s__law_pick) l15 c15 k15)⟩
  have C__law_fraction : Cal P w K mg base 3 "_law_fraction" s__law_fraction ["_law_box_here"] (spN ⟨K, fun _ => 0⟩ (bxN TT) 3 1 F__law_fraction) := ⟨_, _, fun_mk (st := s__law_fraction) l18 c18 k18, PySem.W.mg_of X G a18, ok__law_fraction T C__law_least C__law_pick C__law_take (fun_mk (st := s__law_fraction) l18 c18 k18)⟩
  have C__law_turn : Cal P w K mg base 1 "_law_turn" s__law_turn ["_law_end_here"] (spP ⟨K, fun _ => 0⟩ 1 F__law_turn) := ⟨_, _, fun_mk (st := s__law_turn) l24 c24 k24, PySem.W.mg_of X G a24, ok__law_turn T (fun_mk (st := s__law_turn) l24 c24 k24)⟩
  have C_less : Cal P w K mg base 1 "less" s_less ["one", "other"] (spP ⟨K, fun _ => 0⟩ 2 F_less) := ⟨_, _, fun_mk (st := s_less) l7 c7 k7, PySem.W.mg_of X G a7, ok_less T (fun_mk (st := s_less) l7 c7 k7)⟩
  have C_greatest_of : CalX P w K mg base 3 "greatest_of" s_greatest_of ["some"] (spXM ⟨K, fun _ => 0⟩ (erTwo "InvalidNumber" "Refused" CEInvalidNumber CERefused "word") 1 F_greatest_of) := ⟨_, _, fun_mk (st := s_greatest_of) l9 c9 k9, PySem.W.mg_of X G a9, ok_greatest_of T C_less CE_Refused (erTwo_2 (by decide) _ _ _) (fun_mk (st := s_greatest_of) l9 c9 k9)⟩
  have C_least_of : CalX P w K mg base 3 "least_of" s_least_of ["some"] (spXM ⟨K, fun _ => 0⟩ (erTwo "InvalidNumber" "Refused" CEInvalidNumber CERefused "word") 1 F_least_of) := ⟨_, _, fun_mk (st := s_least_of) l8 c8 k8, PySem.W.mg_of X G a8, ok_least_of T C_less CE_Refused (erTwo_2 (by decide) _ _ _) (fun_mk (st := s_least_of) l8 c8 k8)⟩
  have C__law_near_right : Cal P w K mg base 4 "_law_near_right" s__law_near_right ["_law_box_here"] (spN ⟨K, fun _ => 0⟩ (bxN TT) 2 1 F__law_near_right) := ⟨_, _, fun_mk (st := s__law_near_right) l28 c28 k28, PySem.W.mg_of X G a28, ok__law_near_right T C__law_take C__law_turn C_greatest_of C_least_of C_less (fun_mk (st := s__law_near_right) l28 c28 k28)⟩
  have C__law_odd : Cal P w K mg base 3 "_law_odd" s__law_odd ["_law_box_here", "_law_one"] (spN ⟨K, fun _ => 0⟩ (bxN TT) 1 2 F__law_odd) := ⟨_, _, fun_mk (st := s__law_odd) l27 c27 k27, PySem.W.mg_of X G a27, ok__law_odd T C__law_pick (fun_mk (st := s__law_odd) l27 c27 k27)⟩
  have C__law_end : Cal P w K mg base 3 "_law_end" s__law_end ["_law_box_here", "_law_middle", "_law_side"] (spN ⟨K, fun _ => 0⟩ (bxN TT) 2 3 F__law_end) := ⟨_, _, fun_mk (st := s__law_end) l23 c23 k23, PySem.W.mg_of X G a23, ok__law_end T C__law_least C__law_take (fun_mk (st := s__law_end) l23 c23 k23)⟩
  have C__law_none_less : Cal P w K mg base 1 "_law_none_less" s__law_none_less ["_law_found", "_law_low", "_law_high"] (spP ⟨K, fun _ => 0⟩ 3 F__law_none_less) := ⟨_, _, fun_mk (st := s__law_none_less) l25 c25 k25, PySem.W.mg_of X G a25, ok__law_none_less T (fun_mk (st := s__law_none_less) l25 c25 k25)⟩
  have C__law_way : Cal P w K mg base 2 "_law_way" s__law_way ["_law_box_here"] (spN ⟨K, fun _ => 0⟩ (bxN TT) 17 1 F__law_way) := ⟨_, _, fun_mk (st := s__law_way) l22 c22 k22, PySem.W.mg_of X G a22, ok__law_way T C__law_take (fun_mk (st := s__law_way) l22 c22 k22)⟩
  have C__simplest_above : Cal P w K mg base 1 "_simplest_above" s__simplest_above ["low", "high"] (spP ⟨K, fun _ => 0⟩ 2 F__simplest_above) := ⟨_, _, fun_mk (st := s__simplest_above) l12 c12 k12, PySem.W.mg_of X G a12, ok__simplest_above T (fun_mk (st := s__simplest_above) l12 c12 k12)⟩
  have C_negative : Cal P w K mg base 1 "negative" s_negative ["value"] (spP ⟨K, fun _ => 0⟩ 1 F_negative) := ⟨_, _, fun_mk (st := s_negative) l11 c11 k11, PySem.W.mg_of X G a11, ok_negative T (fun_mk (st := s_negative) l11 c11 k11)⟩
  have C_simplest : CalX P w K mg base 3 "simplest" s_simplest ["low", "high"] (spXM ⟨K, fun _ => 0⟩ (erTwo "InvalidNumber" "Refused" CEInvalidNumber CERefused "word") 2 F_simplest) := ⟨_, _, fun_mk (st := s_simplest) l13 c13 k13, PySem.W.mg_of X G a13, ok_simplest T C__simplest_above C_less C_negative CE_Refused (erTwo_2 (by decide) _ _ _) (fun_mk (st := s_simplest) l13 c13 k13)⟩
  have TH__law_refused : CalTh P w K mg base "_law_refused" "_law_action" s__law_refused ["_law_action", "error"] (erTwo "InvalidNumber" "Refused" CEInvalidNumber CERefused "word") none [("InvalidNumber", "number"), ("Refused", "refused")] := th__law_refused ER_InvalidNumber ER_Refused (not_caught exEInvalidNumber icEInvalidNumber tycInvalidNumber sx) (erTwo_1 _ _ _ _ _) (erTwo_2 (by decide) _ _ _) (fun_mk (st := s__law_refused) l31 c31 k31) (PySem.W.mg_of X G a31) ((fun_mk (st := s__law_refused) l31 c31 k31).binds (ps := ["_law_action"]) (fun _ _ _ _ _ _ us hl => match us, hl with | [_], _ => rfl))
  have C__law_ranges_right : Cal P w K mg base 10 "_law_ranges_right" s__law_ranges_right ["_law_box_here"] (spN ⟨K, fun _ => 0⟩ (bxN TT) 22 1 F__law_ranges_right) := ⟨_, _, fun_mk (st := s__law_ranges_right) l26 c26 k26, PySem.W.mg_of X G a26, ok__law_ranges_right T C__law_end C__law_none_less C__law_take C__law_turn C__law_way C_simplest TH__law_refused (RR := bxN TT) (fun b c n => bxN_res TT b c n) TB26 mT26 uT26 (codeAt_of l26 rfl) (fun_mk (st := s__law_ranges_right) l26 c26 k26)⟩
  have C__law_truth : Cal P w K mg base 1 "_law_truth" s__law_truth ["_law_value", "_law_due"] (spP ⟨K, fun _ => 0⟩ 2 F__law_truth) := ⟨_, _, fun_mk (st := s__law_truth) l20 c20 k20, PySem.W.mg_of X G a20, ok__law_truth T (fun_mk (st := s__law_truth) l20 c20 k20)⟩
  have C_fraction_of : CalX P w K mg base 3 "fraction_of" s_fraction_of ["top", "bottom"] (spXM ⟨K, fun _ => 0⟩ (erTwo "InvalidNumber" "Refused" CEInvalidNumber CERefused "word") 2 F_fraction_of) := ⟨_, _, fun_mk (st := s_fraction_of) l1 c1 k1, PySem.W.mg_of X G a1, ok_fraction_of T CE_InvalidNumber (erTwo_1 _ _ _ _ _) (fun_mk (st := s_fraction_of) l1 c1 k1)⟩
  have C_is_whole : Cal P w K mg base 1 "is_whole" s_is_whole ["value"] (spP ⟨K, fun _ => 0⟩ 1 F_is_whole) := ⟨_, _, fun_mk (st := s_is_whole) l0 c0 k0, PySem.W.mg_of X G a0, ok_is_whole T (fun_mk (st := s_is_whole) l0 c0 k0)⟩
  have C_is_fraction : Cal P w K mg base 2 "is_fraction" s_is_fraction ["value"] (spP ⟨K, fun _ => 0⟩ 1 F_is_fraction) := ⟨_, _, fun_mk (st := s_is_fraction) l2 c2 k2, PySem.W.mg_of X G a2, ok_is_fraction T C_is_whole (fun_mk (st := s_is_fraction) l2 c2 k2)⟩
  have C_minus : Cal P w K mg base 4 "minus" s_minus ["one", "other"] (spP ⟨K, fun _ => 0⟩ 2 F_minus) := ⟨_, _, fun_mk (st := s_minus) l4 c4 k4, PySem.W.mg_of X G a4, ok_minus T C_fraction_of (fun_mk (st := s_minus) l4 c4 k4)⟩
  have C_plus : Cal P w K mg base 4 "plus" s_plus ["one", "other"] (spP ⟨K, fun _ => 0⟩ 2 F_plus) := ⟨_, _, fun_mk (st := s_plus) l3 c3 k3, PySem.W.mg_of X G a3, ok_plus T C_fraction_of (fun_mk (st := s_plus) l3 c3 k3)⟩
  have C_ratio : CalX P w K mg base 4 "ratio" s_ratio ["one", "other"] (spXM ⟨K, fun _ => 0⟩ (erTwo "InvalidNumber" "Refused" CEInvalidNumber CERefused "word") 2 F_ratio) := ⟨_, _, fun_mk (st := s_ratio) l6 c6 k6, PySem.W.mg_of X G a6, ok_ratio T C_fraction_of (fun_mk (st := s_ratio) l6 c6 k6)⟩
  have C_times : Cal P w K mg base 4 "times" s_times ["one", "other"] (spP ⟨K, fun _ => 0⟩ 2 F_times) := ⟨_, _, fun_mk (st := s_times) l5 c5 k5, PySem.W.mg_of X G a5, ok_times T C_fraction_of (fun_mk (st := s_times) l5 c5 k5)⟩
  have C_weighed : Cal P w K mg base 4 "weighed" s_weighed ["coefficients", "point"] (spP ⟨K, fun _ => 0⟩ 2 F_weighed) := ⟨_, _, fun_mk (st := s_weighed) l10 c10 k10, PySem.W.mg_of X G a10, ok_weighed T C_fraction_of (fun_mk (st := s_weighed) l10 c10 k10)⟩
  have C__law_box : Cal P w K mg base 1 "_law_box" s__law_box ["_law_script", "_law_k"] (spB ⟨K, fun _ => 0⟩ 2 F__law_box) := ⟨_, _, fun_mk (st := s__law_box) l14 c14 k14, PySem.W.mg_of X G a14, ok__law_box T (fun_mk (st := s__law_box) l14 c14 k14)⟩
  have hTc : ∀ p ∈ TT, ∃ q ∈ ([(c26_, P26), (c29_, P29)] : List (Addr × Addr)), q.2 = p.1 := fun p hp => by
    rcases List.mem_cons.mp hp with rfl | hp
    · exact ⟨(c26_, P26), by simp, rfl⟩
    rcases List.mem_cons.mp hp with rfl | hp
    · exact ⟨(c29_, P29), by simp, rfl⟩
    cases hp
  exact ok_law (W := ⟨K, fun _ => 0⟩) T C__law_equals C__law_fraction C__law_is C__law_near_right C__law_odd C__law_pick C__law_ranges_right C__law_take C__law_truth C_fraction_of C_greatest_of C_is_fraction C_least_of C_less C_minus C_plus C_ratio C_simplest C_times C_weighed TH__law_refused C__law_box hTc TB29 mT29 uT29 (codeAt_of l29 rfl) (fun_mk (st := s_law) l29 c29 k29)

end K03
open PySem PySem.W PyProof.Rows
set_option maxHeartbeats 0 in
theorem PySem.Challenge.cw_rowalone_k03_whole_simplest_fractions_holds : PySem.Challenge.rw_rowalone_k03_whole_simplest_fractions.Holds := by
  w_on; o_law; k_head; (case hw => w_witness2)
  k_fill
  refine DL.walk_T (l := PySem.Challenge.rw_rowalone_k03_whole_simplest_fractions) (n := 63) (k := 14) (x := "_law_script") rfl (by decide) rfl ⟨⟨rfl, by decide, by decide⟩, rfl⟩ (fun w h Y => PySem.W.km_in_of Y) ?F
  case F =>
    intro w mg fa h Y KX G hmg
    refine' K03.all_mk KX G hmg ?a0 ?l0 ?c0 ?k0 ?a1 ?l1 ?c1 ?k1 ?a2 ?l2 ?c2 ?k2 ?a3 ?l3 ?c3 ?k3 ?a4 ?l4 ?c4 ?k4 ?a5 ?l5 ?c5 ?k5 ?a6 ?l6 ?c6 ?k6 ?a7 ?l7 ?c7 ?k7 ?a8 ?l8 ?c8 ?k8 ?a9 ?l9 ?c9 ?k9 ?a10 ?l10 ?c10 ?k10 ?a11 ?l11 ?c11 ?k11 ?a12 ?l12 ?c12 ?k12 ?a13 ?l13 ?c13 ?k13 ?a14 ?l14 ?c14 ?k14 ?a15 ?l15 ?c15 ?k15 ?a16 ?l16 ?c16 ?k16 ?a17 ?l17 ?c17 ?k17 ?a18 ?l18 ?c18 ?k18 ?a19 ?l19 ?c19 ?k19 ?a20 ?l20 ?c20 ?k20 ?a21 ?l21 ?c21 ?k21 ?a22 ?l22 ?c22 ?k22 ?a23 ?l23 ?c23 ?k23 ?a24 ?l24 ?c24 ?k24 ?a25 ?l25 ?c25 ?k25 ?a26 ?l26 ?c26 ?k26 ?a27 ?l27 ?c27 ?k27 ?a28 ?l28 ?c28 ?k28 ?a29 ?l29 ?c29 ?k29 ?a30 ?l30 ?c30 ?k30 ?a31 ?l31 ?c31 ?k31 ?aEInvalidNumber ?xEInvalidNumber ?saEInvalidNumber ?gaEInvalidNumber ?ggEInvalidNumber ?nbEInvalidNumber ?fiEInvalidNumber ?tyEInvalidNumber ?lEInvalidNumber ?cEInvalidNumber ?kEInvalidNumber ?kkEInvalidNumber ?exEInvalidNumber ?tycInvalidNumber ?hdEInvalidNumber ?icEInvalidNumber ?ssEInvalidNumber ?aERefused ?xERefused ?saERefused ?gaERefused ?ggERefused ?nbERefused ?fiERefused ?tyERefused ?lERefused ?cERefused ?kERefused ?kkERefused ?exERefused ?tycRefused ?hdERefused ?icERefused ?ssERefused ?vc26 ?pc26 ?hc26 ?uc26 ?em26 ?vc29 ?pc29 ?hc29 ?uc29 ?em29 ?ne26_29 ?sx ?zabs ?zall ?zbool ?zgcd ?zint ?zisinstance ?zlen ?zlist ?zmin ?zrange ?zreversed ?ztuple ?zzip
    (case a0 => k_is); (case l0 => k_is); (case c0 => k_is); (case k0 => k_is); (case a1 => k_is); (case l1 => k_is)
    (case c1 => k_is); (case k1 => k_is); (case a2 => k_is); (case l2 => k_is); (case c2 => k_is); (case k2 => k_is)
    (case a3 => k_is); (case l3 => k_is); (case c3 => k_is); (case k3 => k_is); (case a4 => k_is); (case l4 => k_is)
    (case c4 => k_is); (case k4 => k_is); (case a5 => k_is); (case l5 => k_is); (case c5 => k_is); (case k5 => k_is)
    (case a6 => k_is); (case l6 => k_is); (case c6 => k_is); (case k6 => k_is); (case a7 => k_is); (case l7 => k_is)
    (case c7 => k_is); (case k7 => k_is); (case a8 => k_is); (case l8 => k_is); (case c8 => k_is); (case k8 => k_is)
    (case a9 => k_is); (case l9 => k_is); (case c9 => k_is); (case k9 => k_is); (case a10 => k_is); (case l10 => k_is)
    (case c10 => k_is); (case k10 => k_is); (case a11 => k_is); (case l11 => k_is); (case c11 => k_is); (case k11 => k_is)
    (case a12 => k_is); (case l12 => k_is); (case c12 => k_is); (case k12 => k_is); (case a13 => k_is); (case l13 => k_is)
    (case c13 => k_is); (case k13 => k_is); (case a14 => k_is); (case l14 => k_is); (case c14 => k_is); (case k14 => k_is)
    (case a15 => k_is); (case l15 => k_is); (case c15 => k_is); (case k15 => k_is); (case a16 => k_is); (case l16 => k_is)
    (case c16 => k_is); (case k16 => k_is); (case a17 => k_is); (case l17 => k_is); (case c17 => k_is); (case k17 => k_is)
    (case a18 => k_is); (case l18 => k_is); (case c18 => k_is); (case k18 => k_is); (case a19 => k_is); (case l19 => k_is)
    (case c19 => k_is); (case k19 => k_is); (case a20 => k_is); (case l20 => k_is); (case c20 => k_is); (case k20 => k_is)
    (case a21 => k_is); (case l21 => k_is); (case c21 => k_is); (case k21 => k_is); (case a22 => k_is); (case l22 => k_is)
    (case c22 => k_is); (case k22 => k_is); (case a23 => k_is); (case l23 => k_is); (case c23 => k_is); (case k23 => k_is)
    (case a24 => k_is); (case l24 => k_is); (case c24 => k_is); (case k24 => k_is); (case a25 => k_is); (case l25 => k_is)
    (case c25 => k_is); (case k25 => k_is); (case a26 => k_is); (case l26 => k_is); (case c26 => k_is); (case k26 => k_is)
    (case a27 => k_is); (case l27 => k_is); (case c27 => k_is); (case k27 => k_is); (case a28 => k_is); (case l28 => k_is)
    (case c28 => k_is); (case k28 => k_is); (case a29 => k_is); (case l29 => k_is); (case c29 => k_is); (case k29 => k_is)
    (case a30 => k_is); (case l30 => k_is); (case c30 => k_is); (case k30 => k_is); (case a31 => k_is); (case l31 => k_is)
    (case c31 => k_is); (case k31 => k_is); (case aEInvalidNumber => k_is); (case xEInvalidNumber => k_is); (case saEInvalidNumber => k_is); (case gaEInvalidNumber => k_is)
    (case ggEInvalidNumber => k_is); (case nbEInvalidNumber => k_is); (case fiEInvalidNumber => k_is); (case tyEInvalidNumber => k_is); (case lEInvalidNumber => k_is); (case cEInvalidNumber => k_is)
    (case kEInvalidNumber => k_is); (case kkEInvalidNumber => k_is); (case exEInvalidNumber => k_is); (case tycInvalidNumber => k_is); (case hdEInvalidNumber => k_is); (case icEInvalidNumber => k_is)
    (case ssEInvalidNumber => first | rfl | k_is); (case aERefused => k_is); (case xERefused => k_is); (case saERefused => k_is); (case gaERefused => k_is); (case ggERefused => k_is)
    (case nbERefused => k_is); (case fiERefused => k_is); (case tyERefused => k_is); (case lERefused => k_is); (case cERefused => k_is); (case kERefused => k_is)
    (case kkERefused => k_is); (case exERefused => k_is); (case tycRefused => k_is); (case hdERefused => k_is); (case icERefused => k_is); (case ssERefused => first | rfl | k_is)
    (case vc26 => k_is); (case pc26 => rfl); (case hc26 => kernel_rfl); (case uc26 => kernel_rfl); (case em26 => exact PySem.W.km_tabs_of Y _ (by decide)); (case vc29 => k_is)
    (case pc29 => rfl); (case hc29 => kernel_rfl); (case uc29 => kernel_rfl); (case em29 => exact PySem.W.km_tabs_of Y _ (by decide)); (case ne26_29 => decide); (case sx => first | rfl | k_is)
    (case zabs => k_is); (case zall => k_is); (case zbool => k_is); (case zgcd => k_is); (case zint => k_is); (case zisinstance => k_is)
    (case zlen => k_is); (case zlist => k_is); (case zmin => k_is); (case zrange => k_is); (case zreversed => k_is); (case ztuple => k_is)
    (case zzip => k_is)
#print axioms PySem.Challenge.cw_rowalone_k03_whole_simplest_fractions_holds
